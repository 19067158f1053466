/- The law's points and Points. -/
import Derived.Test.YtcfbcidakddhfaaGreatDoorPr39
import Derived.Test.YtcfbcidakddhfaaGreatDoorPr10
import Derived.Test.YtcfbcidakddhfaaGreatDoorPr6
import Derived.Test.YtcfbcidakddhfaaGreatDoorPr3
namespace Go.Proofs.YtcfbcidakddhfaaGreatDoor
open Go.RowKit Go.BigFrame

theorem info_dpt : (Tryz.prog.info? 65).map (fun i => (i.zero, i.size, i.bytes)) = some (some (.agg #[.slice none 0 0, .int .i64 0, .int .i64 0, .int .i64 0, .string ⟨#[]⟩, .int .i64 0, .int .u32 0, .int .u32 0]), 8, 80) := by kernel_rfl
inductive Vp where
  | v (x : Value)
  | sl
  | ag
  | li
/-- What is known of an operation's value, where a point is made. -/
def HP5 (T S : TypeId) (p : Pt) (B : Nat) : Vp → Value → World → Prop
  | .v x, u, _ => u = x
  | .sl, u, w => ∃ A c, u = .slice A p.set.length c ∧ So encP 2 w B S (.slice A p.set.length c) p.set
  | .ag, u, w => ∃ A c, u = agP (p, A, c) ∧ So encP 2 w B S (.slice A p.set.length c) p.set
  | .li, u, w => ∃ g A c, u = .slice (some ⟨g, 0, none⟩) 1 1 ∧ B ≤ g ∧ w.heap[g]? = some (.cells (ceP (p, A, c)) T) ∧ So encP 2 w B S (.slice A p.set.length c) p.set
theorem HP5.mono {T S : TypeId} {p : Pt} {B : Nat} {y : Vp} {u : Value} {w w' : World} (h : HP5 T S p B y u w) (hb : Below w.heap.size w w') : HP5 T S p B y u w' := by
  cases y with
  | v x => exact h
  | sl => obtain ⟨A, c, e, r⟩ := h; exact ⟨A, c, e, r.below hb⟩
  | ag => obtain ⟨A, c, e, r⟩ := h; exact ⟨A, c, e, r.below hb⟩
  | li =>
    obtain ⟨g, A, c, e, hg, hc, r⟩ := h
    exact ⟨g, A, c, e, hg, (hb.block g (Array.getElem?_eq_some_iff.1 hc).1).trans hc, r.below hb⟩
set_option maxRecDepth 100000 in
set_option maxHeartbeats 3200000 in
theorem points_any (KP : Nat) (B : Option Addr) (n cap : Nat) (l : List Pz) (w : World) (hln : l.length = n) (hp : Ps w KP B cap l) (hKP : KP ≤ w.heap.size) (hl : l.length ≤ 1048576) (hsm : ∀ x ∈ l, x.1.set.length ≤ 1048576) :
    Calls Tryz.prog 7 #[.slice B n cap] w (NewPz 52 54 w (l.map Prod.fst)) := by
  subst hln
  have hle := hp.sr.le
  have hmax := hp.sr.max
  unfold maxLen at hmax
  have HP := Lib.hid hp
  have HSM := Lib.hid hsm
  obtain ⟨K, hK⟩ : ∃ K, K = w.heap.size := ⟨_, rfl⟩
  have HKK := Lib.hid hK
  clear hp hsm
  go_enter Tryz.func7, Tryz.ntmps7
  go_wp2
  go_loopw [3, 8] (fun v i wr => ∃ (k cc : Nat) (D : Option Addr) (acc : List Pz), k ≤ l.length ∧ i = .int .i64 k ∧ v = .slice D k cc ∧ acc.map Prod.fst = (l.map Prod.fst).take k ∧ acc.length = k ∧ Pw wr K 52 54 (.slice D k cc) acc ∧ Below K w wr) (fun _ i _ => l.length - (intOf i).toNat)
  case atStart => exact ⟨0, 0, none, [], Nat.zero_le _, rfl, rfl, rfl, rfl, Pw.empty _ _ _ _, Below.refl _ _⟩
  case round =>
    obtain ⟨k, cc, D, acc, hk, rfl, rfl, ham, hae, hpw, hbl⟩ := hrel
    rename World => wr
    have z := hbl.size
    by_cases hlt : k < l.length
    · obtain ⟨ad, hA, hadK, g0, g1, g2, g3, g4, g5, g6, g7⟩ := ps_cells (HP.out.sr.below (hbl.mono (by omega))) hlt
      subst hA
      obtain ⟨x, hx⟩ : ∃ x, x = l[k] := ⟨_, rfl⟩
      have hst := (HP.out.st l[k] (List.getElem_mem hlt)).below (hbl.mono (by omega))
      have hsl0 := HSM.out l[k] (List.getElem_mem hlt)
      rw [← hx] at g0 g1 g2 g3 g4 g5 g6 g7 hst hsl0
      have HXL := Lib.hid hx.symm
      have HAM := Lib.hid ham
      have HAE := Lib.hid hae
      have HAL : Hid (acc.length ≤ 1048576) := Lib.hid (by omega)
      have hsl : Hid (x.1.set.length * 32 ≤ 140737488355328) := Lib.hid (by omega)
      have HB1 : Hid (Below K w (wr.alloc (.cells (ceP x) 65))) := Lib.hid (hbl.alloc (by omega) _)
      have HX : Hid (Rwo (wr.alloc (.cells (ceP x) 65)) wr.heap.size (ceP x) 65) := Lib.hid ⟨heap_alloc_new wr _⟩
      have HST := Lib.hid (hst.alloc (by omega) (.cells (ceP x) 65))
      have HAC := Lib.hid (hpw.alloc (.cells (ceP x) 65))
      have hz1 : wr.heap.size + 1 = (wr.alloc (.cells (ceP x) 65)).heap.size := by simp
      obtain ⟨bz, hbz⟩ : ∃ bz, bz = wr.heap.size := ⟨_, rfl⟩
      have HBZ := Lib.hid hbz
      clear hst hsl0 ham hae hpw hbl hx
      obtain ⟨w1, hw1⟩ : ∃ w1, w1 = wr.alloc (.cells (ceP x) 65) := ⟨_, rfl⟩
      rw [← hw1] at HB1 HX HST HAC hz1
      rw [← hbz] at HX
      have hKP1 : Hid (KP ≤ w1.heap.size) := Lib.hid (by omega)
      have hKW : Hid (K ≤ w1.heap.size) := Lib.hid (by omega)
      have HW1 := Lib.hid hw1
      clear hw1 hbz
      go_upto_region 5 with fail
      rw [← HBZ.out, ← HW1.out]
      clear HW1 HBZ g0 g1 g2 g3 g4 g5 g6 g7 hz1
      apply region_VN (HP5 52 54 x.1 w1.heap.size) (fun wx => Below w1.heap.size w1 wx) (fun v w' => ∃ A9 c9 z, (z : Pz).1 = x.1 ∧ v = .slice A9 (k + 1) c9 ∧ Pw w' K 52 54 (.slice A9 (k + 1) c9) (acc ++ [z]) ∧ Below K w1 w') 17 (.slice D k cc) ?hX [.v (.slice D k cc), .v (.pointer (some ⟨bz, 0, none⟩)), .v (.slice x.2.1 x.1.set.length x.2.2), .sl, .v (.pointer (some ⟨bz, 1, none⟩)), .v (.int .i64 x.1.t), .v (.pointer (some ⟨bz, 2, none⟩)), .v (.int .i64 x.1.k), .v (.pointer (some ⟨bz, 3, none⟩)), .v (.int .i64 x.1.n), .v (.pointer (some ⟨bz, 4, none⟩)), .v (.string x.1.x), .v (.pointer (some ⟨bz, 5, none⟩)), .v (.agg #[.int .i64 x.1.a, .int .u32 x.1.b, .int .u32 x.1.c]), .v (.agg #[.int .i64 x.1.a, .int .u32 x.1.b, .int .u32 x.1.c]), .ag, .li, .v undef] (.v undef)
      case hX => (intro t ht; exact region_own (t := t) (d := 3) (by kernel_rfl) ht (by rfl))
      case mono => exact fun p v w0 w1 h hb => HP5.mono h hb
      case hm => kernel_rfl
      case hf => kernel_rfl
      case hl => kernel_rfl
      case hQ => exact (by intro c x y w e h; exact And.intro (e.symm.trans (And.left h)) (And.right h))
      case hF => intro vs; simp only [putAll, Act.put, List.setIfInBounds_toArray, List.set_cons_zero, List.set_cons_succ, Nat.reduceAdd]; rfl
      case h0 => exact ⟨rfl, rfl, rfl, Nat.le_refl _, fun _ _ => rfl⟩
      case hstep =>
        repeat' (first | exact AllOps.nil | apply AllOps.cons)
        · intro vs wx hXv hG hd K9 hK
          replace hK : ∀ (uu : Value) (w' : World), Below wx.heap.size wx w' → ((fun wx => Below w1.heap.size w1 wx)) w' → (HP5 52 54 x.1 w1.heap.size) (.v (.slice D k cc)) uu w' → K9 _ w' := hK
          simp only [Act.put, List.setIfInBounds_toArray, List.set_cons_zero, List.set_cons_succ, hXv] at hK ⊢
          have HK := Lib.hid hK
          have HG := Lib.hid hG
          clear hK hd hXv
          clear hG
          go_simp
          exact HK.out _ _ (Below.refl _ _) HG.out rfl
        · intro vs wx hXv hG hd K9 hK
          replace hK : ∀ (uu : Value) (w' : World), Below wx.heap.size wx w' → ((fun wx => Below w1.heap.size w1 wx)) w' → (HP5 52 54 x.1 w1.heap.size) (.v (.pointer (some ⟨bz, 0, none⟩))) uu w' → K9 _ w' := hK
          simp only [Act.put, List.setIfInBounds_toArray, List.set_cons_zero, List.set_cons_succ, hXv] at hK ⊢
          have HK := Lib.hid hK
          have HG := Lib.hid hG
          clear hK hd hXv
          clear hG
          go_simp
          exact HK.out _ _ (Below.refl _ _) HG.out rfl
        · intro vs wx hXv hG hd K9 hK
          have e1 : vs 1 = .pointer (some ⟨bz, 0, none⟩) := hd.get (j := 1) (by simp [depsOf, Region.binds])
          replace hK : ∀ (uu : Value) (w' : World), Below wx.heap.size wx w' → ((fun wx => Below w1.heap.size w1 wx)) w' → (HP5 52 54 x.1 w1.heap.size) (.v (.slice x.2.1 x.1.set.length x.2.2)) uu w' → K9 _ w' := hK
          simp only [Act.put, List.setIfInBounds_toArray, List.set_cons_zero, List.set_cons_succ, hXv, e1] at hK ⊢
          have HK := Lib.hid hK
          have HG := Lib.hid hG
          clear hK hd hXv e1
          have y0 := HX.out.below HG.out |>.cell (i := 0) (v := .slice x.2.1 x.1.set.length x.2.2) rfl
          have y1 := HX.out.below HG.out |>.cell (i := 1) (v := .int .i64 x.1.t) rfl
          have y2 := HX.out.below HG.out |>.cell (i := 2) (v := .int .i64 x.1.k) rfl
          have y3 := HX.out.below HG.out |>.cell (i := 3) (v := .int .i64 x.1.n) rfl
          have y4 := HX.out.below HG.out |>.cell (i := 4) (v := .string x.1.x) rfl
          have y5 := HX.out.below HG.out |>.cell (i := 5) (v := .int .i64 x.1.a) rfl
          have y6 := HX.out.below HG.out |>.cell (i := 6) (v := .int .u32 x.1.b) rfl
          have y7 := HX.out.below HG.out |>.cell (i := 7) (v := .int .u32 x.1.c) rfl
          have yl := (HX.out.below HG.out).lt
          clear hG
          go_simp
          exact HK.out _ _ (Below.refl _ _) HG.out rfl
        · intro vs wx hXv hG hd K9 hK
          have e2 : vs 2 = .slice x.2.1 x.1.set.length x.2.2 := hd.get (j := 2) (by simp [depsOf, Region.binds])
          replace hK : ∀ (uu : Value) (w' : World), Below wx.heap.size wx w' → ((fun wx => Below w1.heap.size w1 wx)) w' → (HP5 52 54 x.1 w1.heap.size) (.sl) uu w' → K9 _ w' := hK
          simp only [Act.put, List.setIfInBounds_toArray, List.set_cons_zero, List.set_cons_succ, hXv, e2] at hK ⊢
          have HK := Lib.hid hK
          have HG := Lib.hid hG
          clear hK hd hXv e2
          have HS := Lib.hid (HST.out.below (HG.out.mono hKP1.out))
          have hz := HG.out.size
          go_simp
          go_at_call 19
          refine (to_any KP x.2.1 x.1.set.length x.2.2 x.1.set wx rfl HS.out (Nat.le_trans hKP1.out hz) hsl.out).mono ?_
          rintro en w9 ⟨A9, c9, rfl, so9, hb⟩
          exact HK.out _ _ hb (HG.out.trans (hb.mono hz)) ⟨A9, c9, rfl, so9.more hz⟩
        · intro vs wx hXv hG hd K9 hK
          replace hK : ∀ (uu : Value) (w' : World), Below wx.heap.size wx w' → ((fun wx => Below w1.heap.size w1 wx)) w' → (HP5 52 54 x.1 w1.heap.size) (.v (.pointer (some ⟨bz, 1, none⟩))) uu w' → K9 _ w' := hK
          simp only [Act.put, List.setIfInBounds_toArray, List.set_cons_zero, List.set_cons_succ, hXv] at hK ⊢
          have HK := Lib.hid hK
          have HG := Lib.hid hG
          clear hK hd hXv
          clear hG
          go_simp
          exact HK.out _ _ (Below.refl _ _) HG.out rfl
        · intro vs wx hXv hG hd K9 hK
          have e4 : vs 4 = .pointer (some ⟨bz, 1, none⟩) := hd.get (j := 4) (by simp [depsOf, Region.binds])
          replace hK : ∀ (uu : Value) (w' : World), Below wx.heap.size wx w' → ((fun wx => Below w1.heap.size w1 wx)) w' → (HP5 52 54 x.1 w1.heap.size) (.v (.int .i64 x.1.t)) uu w' → K9 _ w' := hK
          simp only [Act.put, List.setIfInBounds_toArray, List.set_cons_zero, List.set_cons_succ, hXv, e4] at hK ⊢
          have HK := Lib.hid hK
          have HG := Lib.hid hG
          clear hK hd hXv e4
          have y0 := HX.out.below HG.out |>.cell (i := 0) (v := .slice x.2.1 x.1.set.length x.2.2) rfl
          have y1 := HX.out.below HG.out |>.cell (i := 1) (v := .int .i64 x.1.t) rfl
          have y2 := HX.out.below HG.out |>.cell (i := 2) (v := .int .i64 x.1.k) rfl
          have y3 := HX.out.below HG.out |>.cell (i := 3) (v := .int .i64 x.1.n) rfl
          have y4 := HX.out.below HG.out |>.cell (i := 4) (v := .string x.1.x) rfl
          have y5 := HX.out.below HG.out |>.cell (i := 5) (v := .int .i64 x.1.a) rfl
          have y6 := HX.out.below HG.out |>.cell (i := 6) (v := .int .u32 x.1.b) rfl
          have y7 := HX.out.below HG.out |>.cell (i := 7) (v := .int .u32 x.1.c) rfl
          have yl := (HX.out.below HG.out).lt
          clear hG
          go_simp
          exact HK.out _ _ (Below.refl _ _) HG.out rfl
        · intro vs wx hXv hG hd K9 hK
          replace hK : ∀ (uu : Value) (w' : World), Below wx.heap.size wx w' → ((fun wx => Below w1.heap.size w1 wx)) w' → (HP5 52 54 x.1 w1.heap.size) (.v (.pointer (some ⟨bz, 2, none⟩))) uu w' → K9 _ w' := hK
          simp only [Act.put, List.setIfInBounds_toArray, List.set_cons_zero, List.set_cons_succ, hXv] at hK ⊢
          have HK := Lib.hid hK
          have HG := Lib.hid hG
          clear hK hd hXv
          clear hG
          go_simp
          exact HK.out _ _ (Below.refl _ _) HG.out rfl
        · intro vs wx hXv hG hd K9 hK
          have e6 : vs 6 = .pointer (some ⟨bz, 2, none⟩) := hd.get (j := 6) (by simp [depsOf, Region.binds])
          replace hK : ∀ (uu : Value) (w' : World), Below wx.heap.size wx w' → ((fun wx => Below w1.heap.size w1 wx)) w' → (HP5 52 54 x.1 w1.heap.size) (.v (.int .i64 x.1.k)) uu w' → K9 _ w' := hK
          simp only [Act.put, List.setIfInBounds_toArray, List.set_cons_zero, List.set_cons_succ, hXv, e6] at hK ⊢
          have HK := Lib.hid hK
          have HG := Lib.hid hG
          clear hK hd hXv e6
          have y0 := HX.out.below HG.out |>.cell (i := 0) (v := .slice x.2.1 x.1.set.length x.2.2) rfl
          have y1 := HX.out.below HG.out |>.cell (i := 1) (v := .int .i64 x.1.t) rfl
          have y2 := HX.out.below HG.out |>.cell (i := 2) (v := .int .i64 x.1.k) rfl
          have y3 := HX.out.below HG.out |>.cell (i := 3) (v := .int .i64 x.1.n) rfl
          have y4 := HX.out.below HG.out |>.cell (i := 4) (v := .string x.1.x) rfl
          have y5 := HX.out.below HG.out |>.cell (i := 5) (v := .int .i64 x.1.a) rfl
          have y6 := HX.out.below HG.out |>.cell (i := 6) (v := .int .u32 x.1.b) rfl
          have y7 := HX.out.below HG.out |>.cell (i := 7) (v := .int .u32 x.1.c) rfl
          have yl := (HX.out.below HG.out).lt
          clear hG
          go_simp
          exact HK.out _ _ (Below.refl _ _) HG.out rfl
        · intro vs wx hXv hG hd K9 hK
          replace hK : ∀ (uu : Value) (w' : World), Below wx.heap.size wx w' → ((fun wx => Below w1.heap.size w1 wx)) w' → (HP5 52 54 x.1 w1.heap.size) (.v (.pointer (some ⟨bz, 3, none⟩))) uu w' → K9 _ w' := hK
          simp only [Act.put, List.setIfInBounds_toArray, List.set_cons_zero, List.set_cons_succ, hXv] at hK ⊢
          have HK := Lib.hid hK
          have HG := Lib.hid hG
          clear hK hd hXv
          clear hG
          go_simp
          exact HK.out _ _ (Below.refl _ _) HG.out rfl
        · intro vs wx hXv hG hd K9 hK
          have e8 : vs 8 = .pointer (some ⟨bz, 3, none⟩) := hd.get (j := 8) (by simp [depsOf, Region.binds])
          replace hK : ∀ (uu : Value) (w' : World), Below wx.heap.size wx w' → ((fun wx => Below w1.heap.size w1 wx)) w' → (HP5 52 54 x.1 w1.heap.size) (.v (.int .i64 x.1.n)) uu w' → K9 _ w' := hK
          simp only [Act.put, List.setIfInBounds_toArray, List.set_cons_zero, List.set_cons_succ, hXv, e8] at hK ⊢
          have HK := Lib.hid hK
          have HG := Lib.hid hG
          clear hK hd hXv e8
          have y0 := HX.out.below HG.out |>.cell (i := 0) (v := .slice x.2.1 x.1.set.length x.2.2) rfl
          have y1 := HX.out.below HG.out |>.cell (i := 1) (v := .int .i64 x.1.t) rfl
          have y2 := HX.out.below HG.out |>.cell (i := 2) (v := .int .i64 x.1.k) rfl
          have y3 := HX.out.below HG.out |>.cell (i := 3) (v := .int .i64 x.1.n) rfl
          have y4 := HX.out.below HG.out |>.cell (i := 4) (v := .string x.1.x) rfl
          have y5 := HX.out.below HG.out |>.cell (i := 5) (v := .int .i64 x.1.a) rfl
          have y6 := HX.out.below HG.out |>.cell (i := 6) (v := .int .u32 x.1.b) rfl
          have y7 := HX.out.below HG.out |>.cell (i := 7) (v := .int .u32 x.1.c) rfl
          have yl := (HX.out.below HG.out).lt
          clear hG
          go_simp
          exact HK.out _ _ (Below.refl _ _) HG.out rfl
        · intro vs wx hXv hG hd K9 hK
          replace hK : ∀ (uu : Value) (w' : World), Below wx.heap.size wx w' → ((fun wx => Below w1.heap.size w1 wx)) w' → (HP5 52 54 x.1 w1.heap.size) (.v (.pointer (some ⟨bz, 4, none⟩))) uu w' → K9 _ w' := hK
          simp only [Act.put, List.setIfInBounds_toArray, List.set_cons_zero, List.set_cons_succ, hXv] at hK ⊢
          have HK := Lib.hid hK
          have HG := Lib.hid hG
          clear hK hd hXv
          clear hG
          go_simp
          exact HK.out _ _ (Below.refl _ _) HG.out rfl
        · intro vs wx hXv hG hd K9 hK
          have e10 : vs 10 = .pointer (some ⟨bz, 4, none⟩) := hd.get (j := 10) (by simp [depsOf, Region.binds])
          replace hK : ∀ (uu : Value) (w' : World), Below wx.heap.size wx w' → ((fun wx => Below w1.heap.size w1 wx)) w' → (HP5 52 54 x.1 w1.heap.size) (.v (.string x.1.x)) uu w' → K9 _ w' := hK
          simp only [Act.put, List.setIfInBounds_toArray, List.set_cons_zero, List.set_cons_succ, hXv, e10] at hK ⊢
          have HK := Lib.hid hK
          have HG := Lib.hid hG
          clear hK hd hXv e10
          have y0 := HX.out.below HG.out |>.cell (i := 0) (v := .slice x.2.1 x.1.set.length x.2.2) rfl
          have y1 := HX.out.below HG.out |>.cell (i := 1) (v := .int .i64 x.1.t) rfl
          have y2 := HX.out.below HG.out |>.cell (i := 2) (v := .int .i64 x.1.k) rfl
          have y3 := HX.out.below HG.out |>.cell (i := 3) (v := .int .i64 x.1.n) rfl
          have y4 := HX.out.below HG.out |>.cell (i := 4) (v := .string x.1.x) rfl
          have y5 := HX.out.below HG.out |>.cell (i := 5) (v := .int .i64 x.1.a) rfl
          have y6 := HX.out.below HG.out |>.cell (i := 6) (v := .int .u32 x.1.b) rfl
          have y7 := HX.out.below HG.out |>.cell (i := 7) (v := .int .u32 x.1.c) rfl
          have yl := (HX.out.below HG.out).lt
          clear hG
          go_simp
          exact HK.out _ _ (Below.refl _ _) HG.out rfl
        · intro vs wx hXv hG hd K9 hK
          replace hK : ∀ (uu : Value) (w' : World), Below wx.heap.size wx w' → ((fun wx => Below w1.heap.size w1 wx)) w' → (HP5 52 54 x.1 w1.heap.size) (.v (.pointer (some ⟨bz, 5, none⟩))) uu w' → K9 _ w' := hK
          simp only [Act.put, List.setIfInBounds_toArray, List.set_cons_zero, List.set_cons_succ, hXv] at hK ⊢
          have HK := Lib.hid hK
          have HG := Lib.hid hG
          clear hK hd hXv
          clear hG
          go_simp
          exact HK.out _ _ (Below.refl _ _) HG.out rfl
        · intro vs wx hXv hG hd K9 hK
          have e12 : vs 12 = .pointer (some ⟨bz, 5, none⟩) := hd.get (j := 12) (by simp [depsOf, Region.binds])
          replace hK : ∀ (uu : Value) (w' : World), Below wx.heap.size wx w' → ((fun wx => Below w1.heap.size w1 wx)) w' → (HP5 52 54 x.1 w1.heap.size) (.v (.agg #[.int .i64 x.1.a, .int .u32 x.1.b, .int .u32 x.1.c])) uu w' → K9 _ w' := hK
          simp only [Act.put, List.setIfInBounds_toArray, List.set_cons_zero, List.set_cons_succ, hXv, e12] at hK ⊢
          have HK := Lib.hid hK
          have HG := Lib.hid hG
          clear hK hd hXv e12
          have y0 := HX.out.below HG.out |>.cell (i := 0) (v := .slice x.2.1 x.1.set.length x.2.2) rfl
          have y1 := HX.out.below HG.out |>.cell (i := 1) (v := .int .i64 x.1.t) rfl
          have y2 := HX.out.below HG.out |>.cell (i := 2) (v := .int .i64 x.1.k) rfl
          have y3 := HX.out.below HG.out |>.cell (i := 3) (v := .int .i64 x.1.n) rfl
          have y4 := HX.out.below HG.out |>.cell (i := 4) (v := .string x.1.x) rfl
          have y5 := HX.out.below HG.out |>.cell (i := 5) (v := .int .i64 x.1.a) rfl
          have y6 := HX.out.below HG.out |>.cell (i := 6) (v := .int .u32 x.1.b) rfl
          have y7 := HX.out.below HG.out |>.cell (i := 7) (v := .int .u32 x.1.c) rfl
          have yl := (HX.out.below HG.out).lt
          clear hG
          go_simp
          exact HK.out _ _ (Below.refl _ _) HG.out rfl
        · intro vs wx hXv hG hd K9 hK
          have e13 : vs 13 = .agg #[.int .i64 x.1.a, .int .u32 x.1.b, .int .u32 x.1.c] := hd.get (j := 13) (by simp [depsOf, Region.binds])
          replace hK : ∀ (uu : Value) (w' : World), Below wx.heap.size wx w' → ((fun wx => Below w1.heap.size w1 wx)) w' → (HP5 52 54 x.1 w1.heap.size) (.v (.agg #[.int .i64 x.1.a, .int .u32 x.1.b, .int .u32 x.1.c])) uu w' → K9 _ w' := hK
          simp only [Act.put, List.setIfInBounds_toArray, List.set_cons_zero, List.set_cons_succ, hXv, e13] at hK ⊢
          have HK := Lib.hid hK
          have HG := Lib.hid hG
          clear hK hd hXv e13
          have hz := HG.out.size
          go_simp
          go_at_call 20
          refine (stto_any x.1.a x.1.b x.1.c wx).mono ?_
          rintro en w9 ⟨rfl, hb⟩
          exact HK.out _ _ hb (HG.out.trans (hb.mono hz)) rfl
        · intro vs wx hXv hG hd K9 hK
          obtain ⟨A3, d3, e3, r3⟩ : ∃ A' c', vs 3 = .slice A' x.1.set.length c' ∧ So encP 2 wx w1.heap.size 54 (.slice A' x.1.set.length c') x.1.set := hd.get (j := 3) (by simp [depsOf, Region.binds])
          have e5 : vs 5 = .int .i64 x.1.t := hd.get (j := 5) (by simp [depsOf, Region.binds])
          have e7 : vs 7 = .int .i64 x.1.k := hd.get (j := 7) (by simp [depsOf, Region.binds])
          have e9 : vs 9 = .int .i64 x.1.n := hd.get (j := 9) (by simp [depsOf, Region.binds])
          have e11 : vs 11 = .string x.1.x := hd.get (j := 11) (by simp [depsOf, Region.binds])
          have e14 : vs 14 = .agg #[.int .i64 x.1.a, .int .u32 x.1.b, .int .u32 x.1.c] := hd.get (j := 14) (by simp [depsOf, Region.binds])
          replace hK : ∀ (uu : Value) (w' : World), Below wx.heap.size wx w' → ((fun wx => Below w1.heap.size w1 wx)) w' → (HP5 52 54 x.1 w1.heap.size) (.ag) uu w' → K9 _ w' := hK
          simp only [Act.put, List.setIfInBounds_toArray, List.set_cons_zero, List.set_cons_succ, hXv, e3, e5, e7, e9, e11, e14] at hK ⊢
          have HK := Lib.hid hK
          have HG := Lib.hid hG
          clear hK hd hXv e3 e5 e7 e9 e11 e14
          clear hG
          go_simp
          exact HK.out _ _ (Below.refl _ _) HG.out ⟨_, _, rfl, r3⟩
        · intro vs wx hXv hG hd K9 hK
          obtain ⟨A15, d15, e15, r15⟩ : ∃ A' c', vs 15 = agP (x.1, A', c') ∧ So encP 2 wx w1.heap.size 54 (.slice A' x.1.set.length c') x.1.set := hd.get (j := 15) (by simp [depsOf, Region.binds])
          replace hK : ∀ (uu : Value) (w' : World), Below wx.heap.size wx w' → ((fun wx => Below w1.heap.size w1 wx)) w' → (HP5 52 54 x.1 w1.heap.size) (.li) uu w' → K9 _ w' := hK
          simp only [Act.put, List.setIfInBounds_toArray, List.set_cons_zero, List.set_cons_succ, hXv, e15] at hK ⊢
          have HK := Lib.hid hK
          have HG := Lib.hid hG
          clear hK hd hXv e15
          have hz := HG.out.size
          clear hG
          go_simp
          have hb : Below wx.heap.size wx (wx.alloc (.cells (ceP (x.1, A15, d15)) 52)) := (Below.refl _ _).alloc (Nat.le_refl _) _
          exact HK.out _ _ hb (HG.out.trans (hb.mono hz)) ⟨wx.heap.size, A15, d15, rfl, hz, heap_alloc_new wx _, r15.below hb⟩
        · intro vs wx hXv hG hd K9 hK
          have e0 : vs 0 = .slice D k cc := hd.get (j := 0) (by simp [depsOf, Region.binds])
          obtain ⟨g16, A16, d16, e16, f16, h16, r16⟩ : ∃ g A' c', vs 16 = .slice (some ⟨g, 0, none⟩) 1 1 ∧ w1.heap.size ≤ g ∧ wx.heap[g]? = some (.cells (ceP (x.1, A', c')) 52) ∧ So encP 2 wx w1.heap.size 54 (.slice A' x.1.set.length c') x.1.set := hd.get (j := 16) (by simp [depsOf, Region.binds])
          replace hK : ∀ (uu : Value) (w' : World), ((fun v w' => ∃ A9 c9 z, (z : Pz).1 = x.1 ∧ v = .slice A9 (k + 1) c9 ∧ Pw w' K 52 54 (.slice A9 (k + 1) c9) (acc ++ [z]) ∧ Below K w1 w')) uu w' → K9 _ w' := hK
          simp only [Act.put, List.setIfInBounds_toArray, List.set_cons_zero, List.set_cons_succ, hXv, e0, e16] at hK ⊢
          have HK := Lib.hid hK
          have HG := Lib.hid hG
          clear hK hd hXv e0 e16
          have hz := HG.out.size
          have hacc := HAC.out.below HG.out
          have hsr : Sr encPz 8 wx wx.heap.size (some ⟨g16, 0, none⟩) 1 [((x.1, A16, d16) : Pz)] := sr_lit h16 rfl
          have hkx : K ≤ wx.heap.size := Nat.le_trans hKW.out hz
          clear hG
          apply step_appE Tryz.underlying28 info_pt rfl (by decide) encPz_len encPz_one (K := K) (v := .slice D k cc) (l := acc) (A := some ⟨g16, 0, none⟩) (cap := 1) (m := [((x.1, A16, d16) : Pz)]) (K' := wx.heap.size) (s := .tmp 12) (x := .tmp 28)
          case hgd => rfl
          case ho => rfl
          case hs => rfl
          case hx => rfl
          case hown => exact hacc.so
          case hsrc => exact hsr
          case hm => unfold maxLen; simp only [List.length_singleton]; have := HAL.out; omega
          case hsz => simp only [List.length_singleton]; have := HAL.out; omega
          case hbase => exact hkx
          intro A5 c5 w5 so5 hg5
          have hp5 : Pw w5 K 52 54 (.slice A5 (acc.length + 1) c5) (acc ++ [((x.1, A16, d16) : Pz)]) := hacc.push (by decide) (r16.more hKW.out) hg5 so5
          simp only [Act.put, List.setIfInBounds_toArray, List.set_cons_zero, List.set_cons_succ]
          exact HK.out _ _ ⟨A5, c5, (x.1, A16, d16), rfl, by rw [HAE.out] <;> rfl, by rw [HAE.out] at hp5; exact hp5, (HG.out.mono hKW.out).trans (grown_belowE (Below.refl _ _) hg5 hkx (fun _ e => (hacc.so.lt _ e).1))⟩
        · intro vs wx hE K9 hK
          simp only [Act.put, List.setIfInBounds_toArray, List.set_cons_zero, List.set_cons_succ] at hK ⊢
          have HK := Lib.hid hK
          clear hK hE
          go_simp
          exact HK.out
      case hend =>
        intro vs wx hE e18
        obtain ⟨A9, c9, z9, ez, ev, hp9, hb9⟩ := hE
        rw [ev] at e18
        rw [e18]
        clear e18 ev
        have HP9 := Lib.hid hp9
        have HB9 := Lib.hid hb9
        have HEZ : Hid ((acc ++ [z9]).map Prod.fst = (l.map Prod.fst).take (k + 1)) := Lib.hid (by
          rw [List.map_append, HAM.out, ← List.map_take, ← List.map_take, List.take_succ_eq_append_getElem hlt, List.map_append]
          simp only [List.map_cons, List.map_nil, ez, HXL.out])
        have HAE9 : Hid ((acc ++ [z9]).length = k + 1) := Lib.hid (by rw [List.length_append, HAE.out]; rfl)
        clear hp9 hb9 ez
        go_wp2_with fail
        go_roundw
        case rel => exact ⟨k + 1, c9, A9, acc ++ [z9], by omega, by go_num, rfl, HEZ.out, HAE9.out, HP9.out, HB1.out.trans HB9.out⟩
        case measure => simp [intOf]; omega
    · obtain rfl : k = l.length := by omega
      have hml : (l.map Prod.fst).take l.length = l.map Prod.fst := by rw [List.take_of_length_le (by rw [List.length_map]; exact Nat.le_refl _)]
      rw [hml] at ham
      have hll : (l.map Prod.fst).length = l.length := List.length_map _
      go_wp2
      go_ret
      refine ⟨D, cc, acc, ?_, ham, ?_, HKK.out ▸ hbl⟩
      · rw [hll]; rfl
      · rw [hll, ← HKK.out]; exact hpw
set_option maxRecDepth 100000 in
set_option maxHeartbeats 3200000 in
theorem dpoints_any (KP : Nat) (B : Option Addr) (n cap : Nat) (l : List Pz) (w : World) (hln : l.length = n) (hp : Ps w KP B cap l) (hKP : KP ≤ w.heap.size) (hl : l.length ≤ 1048576) (hsm : ∀ x ∈ l, x.1.set.length ≤ 1048576) :
    Calls Tryz.prog 13 #[.slice B n cap] w (NewPz 65 92 w (l.map Prod.fst)) := by
  subst hln
  have hle := hp.sr.le
  have hmax := hp.sr.max
  unfold maxLen at hmax
  have HP := Lib.hid hp
  have HSM := Lib.hid hsm
  obtain ⟨K, hK⟩ : ∃ K, K = w.heap.size := ⟨_, rfl⟩
  have HKK := Lib.hid hK
  clear hp hsm
  go_enter Tryz.func13, Tryz.ntmps13
  go_wp2
  go_loopw [3, 8] (fun v i wr => ∃ (k cc : Nat) (D : Option Addr) (acc : List Pz), k ≤ l.length ∧ i = .int .i64 k ∧ v = .slice D k cc ∧ acc.map Prod.fst = (l.map Prod.fst).take k ∧ acc.length = k ∧ Pw wr K 65 92 (.slice D k cc) acc ∧ Below K w wr) (fun _ i _ => l.length - (intOf i).toNat)
  case atStart => exact ⟨0, 0, none, [], Nat.zero_le _, rfl, rfl, rfl, rfl, Pw.empty _ _ _ _, Below.refl _ _⟩
  case round =>
    obtain ⟨k, cc, D, acc, hk, rfl, rfl, ham, hae, hpw, hbl⟩ := hrel
    rename World => wr
    have z := hbl.size
    by_cases hlt : k < l.length
    · obtain ⟨ad, hA, hadK, g0, g1, g2, g3, g4, g5, g6, g7⟩ := ps_cells (HP.out.sr.below (hbl.mono (by omega))) hlt
      subst hA
      obtain ⟨x, hx⟩ : ∃ x, x = l[k] := ⟨_, rfl⟩
      have hst := (HP.out.st l[k] (List.getElem_mem hlt)).below (hbl.mono (by omega))
      have hsl0 := HSM.out l[k] (List.getElem_mem hlt)
      rw [← hx] at g0 g1 g2 g3 g4 g5 g6 g7 hst hsl0
      have HXL := Lib.hid hx.symm
      have HAM := Lib.hid ham
      have HAE := Lib.hid hae
      have HAL : Hid (acc.length ≤ 1048576) := Lib.hid (by omega)
      have hsl : Hid (x.1.set.length * 32 ≤ 140737488355328) := Lib.hid (by omega)
      have HB1 : Hid (Below K w (wr.alloc (.cells (ceP x) 52))) := Lib.hid (hbl.alloc (by omega) _)
      have HX : Hid (Rwo (wr.alloc (.cells (ceP x) 52)) wr.heap.size (ceP x) 52) := Lib.hid ⟨heap_alloc_new wr _⟩
      have HST := Lib.hid (hst.alloc (by omega) (.cells (ceP x) 52))
      have HAC := Lib.hid (hpw.alloc (.cells (ceP x) 52))
      have hz1 : wr.heap.size + 1 = (wr.alloc (.cells (ceP x) 52)).heap.size := by simp
      obtain ⟨bz, hbz⟩ : ∃ bz, bz = wr.heap.size := ⟨_, rfl⟩
      have HBZ := Lib.hid hbz
      clear hst hsl0 ham hae hpw hbl hx
      obtain ⟨w1, hw1⟩ : ∃ w1, w1 = wr.alloc (.cells (ceP x) 52) := ⟨_, rfl⟩
      rw [← hw1] at HB1 HX HST HAC hz1
      rw [← hbz] at HX
      have hKP1 : Hid (KP ≤ w1.heap.size) := Lib.hid (by omega)
      have hKW : Hid (K ≤ w1.heap.size) := Lib.hid (by omega)
      have HW1 := Lib.hid hw1
      clear hw1 hbz
      go_upto_region 5 with fail
      rw [← HBZ.out, ← HW1.out]
      clear HW1 HBZ g0 g1 g2 g3 g4 g5 g6 g7 hz1
      apply region_VN (HP5 65 92 x.1 w1.heap.size) (fun wx => Below w1.heap.size w1 wx) (fun v w' => ∃ A9 c9 z, (z : Pz).1 = x.1 ∧ v = .slice A9 (k + 1) c9 ∧ Pw w' K 65 92 (.slice A9 (k + 1) c9) (acc ++ [z]) ∧ Below K w1 w') 17 (.slice D k cc) ?hX [.v (.slice D k cc), .v (.pointer (some ⟨bz, 0, none⟩)), .v (.slice x.2.1 x.1.set.length x.2.2), .sl, .v (.pointer (some ⟨bz, 1, none⟩)), .v (.int .i64 x.1.t), .v (.pointer (some ⟨bz, 2, none⟩)), .v (.int .i64 x.1.k), .v (.pointer (some ⟨bz, 3, none⟩)), .v (.int .i64 x.1.n), .v (.pointer (some ⟨bz, 4, none⟩)), .v (.string x.1.x), .v (.pointer (some ⟨bz, 5, none⟩)), .v (.agg #[.int .i64 x.1.a, .int .u32 x.1.b, .int .u32 x.1.c]), .v (.agg #[.int .i64 x.1.a, .int .u32 x.1.b, .int .u32 x.1.c]), .ag, .li, .v undef] (.v undef)
      case hX => (intro t ht; exact region_own (t := t) (d := 3) (by kernel_rfl) ht (by rfl))
      case mono => exact fun p v w0 w1 h hb => HP5.mono h hb
      case hm => kernel_rfl
      case hf => kernel_rfl
      case hl => kernel_rfl
      case hQ => exact (by intro c x y w e h; exact And.intro (e.symm.trans (And.left h)) (And.right h))
      case hF => intro vs; simp only [putAll, Act.put, List.setIfInBounds_toArray, List.set_cons_zero, List.set_cons_succ, Nat.reduceAdd]; rfl
      case h0 => exact ⟨rfl, rfl, rfl, Nat.le_refl _, fun _ _ => rfl⟩
      case hstep =>
        repeat' (first | exact AllOps.nil | apply AllOps.cons)
        · intro vs wx hXv hG hd K9 hK
          replace hK : ∀ (uu : Value) (w' : World), Below wx.heap.size wx w' → ((fun wx => Below w1.heap.size w1 wx)) w' → (HP5 65 92 x.1 w1.heap.size) (.v (.slice D k cc)) uu w' → K9 _ w' := hK
          simp only [Act.put, List.setIfInBounds_toArray, List.set_cons_zero, List.set_cons_succ, hXv] at hK ⊢
          have HK := Lib.hid hK
          have HG := Lib.hid hG
          clear hK hd hXv
          clear hG
          go_simp
          exact HK.out _ _ (Below.refl _ _) HG.out rfl
        · intro vs wx hXv hG hd K9 hK
          replace hK : ∀ (uu : Value) (w' : World), Below wx.heap.size wx w' → ((fun wx => Below w1.heap.size w1 wx)) w' → (HP5 65 92 x.1 w1.heap.size) (.v (.pointer (some ⟨bz, 0, none⟩))) uu w' → K9 _ w' := hK
          simp only [Act.put, List.setIfInBounds_toArray, List.set_cons_zero, List.set_cons_succ, hXv] at hK ⊢
          have HK := Lib.hid hK
          have HG := Lib.hid hG
          clear hK hd hXv
          clear hG
          go_simp
          exact HK.out _ _ (Below.refl _ _) HG.out rfl
        · intro vs wx hXv hG hd K9 hK
          have e1 : vs 1 = .pointer (some ⟨bz, 0, none⟩) := hd.get (j := 1) (by simp [depsOf, Region.binds])
          replace hK : ∀ (uu : Value) (w' : World), Below wx.heap.size wx w' → ((fun wx => Below w1.heap.size w1 wx)) w' → (HP5 65 92 x.1 w1.heap.size) (.v (.slice x.2.1 x.1.set.length x.2.2)) uu w' → K9 _ w' := hK
          simp only [Act.put, List.setIfInBounds_toArray, List.set_cons_zero, List.set_cons_succ, hXv, e1] at hK ⊢
          have HK := Lib.hid hK
          have HG := Lib.hid hG
          clear hK hd hXv e1
          have y0 := HX.out.below HG.out |>.cell (i := 0) (v := .slice x.2.1 x.1.set.length x.2.2) rfl
          have y1 := HX.out.below HG.out |>.cell (i := 1) (v := .int .i64 x.1.t) rfl
          have y2 := HX.out.below HG.out |>.cell (i := 2) (v := .int .i64 x.1.k) rfl
          have y3 := HX.out.below HG.out |>.cell (i := 3) (v := .int .i64 x.1.n) rfl
          have y4 := HX.out.below HG.out |>.cell (i := 4) (v := .string x.1.x) rfl
          have y5 := HX.out.below HG.out |>.cell (i := 5) (v := .int .i64 x.1.a) rfl
          have y6 := HX.out.below HG.out |>.cell (i := 6) (v := .int .u32 x.1.b) rfl
          have y7 := HX.out.below HG.out |>.cell (i := 7) (v := .int .u32 x.1.c) rfl
          have yl := (HX.out.below HG.out).lt
          clear hG
          go_simp
          exact HK.out _ _ (Below.refl _ _) HG.out rfl
        · intro vs wx hXv hG hd K9 hK
          have e2 : vs 2 = .slice x.2.1 x.1.set.length x.2.2 := hd.get (j := 2) (by simp [depsOf, Region.binds])
          replace hK : ∀ (uu : Value) (w' : World), Below wx.heap.size wx w' → ((fun wx => Below w1.heap.size w1 wx)) w' → (HP5 65 92 x.1 w1.heap.size) (.sl) uu w' → K9 _ w' := hK
          simp only [Act.put, List.setIfInBounds_toArray, List.set_cons_zero, List.set_cons_succ, hXv, e2] at hK ⊢
          have HK := Lib.hid hK
          have HG := Lib.hid hG
          clear hK hd hXv e2
          have HS := Lib.hid (HST.out.below (HG.out.mono hKP1.out))
          have hz := HG.out.size
          go_simp
          go_at_call 27
          refine (from_any KP x.2.1 x.1.set.length x.2.2 x.1.set wx rfl HS.out (Nat.le_trans hKP1.out hz) hsl.out).mono ?_
          rintro en w9 ⟨A9, c9, rfl, so9, hb⟩
          exact HK.out _ _ hb (HG.out.trans (hb.mono hz)) ⟨A9, c9, rfl, so9.more hz⟩
        · intro vs wx hXv hG hd K9 hK
          replace hK : ∀ (uu : Value) (w' : World), Below wx.heap.size wx w' → ((fun wx => Below w1.heap.size w1 wx)) w' → (HP5 65 92 x.1 w1.heap.size) (.v (.pointer (some ⟨bz, 1, none⟩))) uu w' → K9 _ w' := hK
          simp only [Act.put, List.setIfInBounds_toArray, List.set_cons_zero, List.set_cons_succ, hXv] at hK ⊢
          have HK := Lib.hid hK
          have HG := Lib.hid hG
          clear hK hd hXv
          clear hG
          go_simp
          exact HK.out _ _ (Below.refl _ _) HG.out rfl
        · intro vs wx hXv hG hd K9 hK
          have e4 : vs 4 = .pointer (some ⟨bz, 1, none⟩) := hd.get (j := 4) (by simp [depsOf, Region.binds])
          replace hK : ∀ (uu : Value) (w' : World), Below wx.heap.size wx w' → ((fun wx => Below w1.heap.size w1 wx)) w' → (HP5 65 92 x.1 w1.heap.size) (.v (.int .i64 x.1.t)) uu w' → K9 _ w' := hK
          simp only [Act.put, List.setIfInBounds_toArray, List.set_cons_zero, List.set_cons_succ, hXv, e4] at hK ⊢
          have HK := Lib.hid hK
          have HG := Lib.hid hG
          clear hK hd hXv e4
          have y0 := HX.out.below HG.out |>.cell (i := 0) (v := .slice x.2.1 x.1.set.length x.2.2) rfl
          have y1 := HX.out.below HG.out |>.cell (i := 1) (v := .int .i64 x.1.t) rfl
          have y2 := HX.out.below HG.out |>.cell (i := 2) (v := .int .i64 x.1.k) rfl
          have y3 := HX.out.below HG.out |>.cell (i := 3) (v := .int .i64 x.1.n) rfl
          have y4 := HX.out.below HG.out |>.cell (i := 4) (v := .string x.1.x) rfl
          have y5 := HX.out.below HG.out |>.cell (i := 5) (v := .int .i64 x.1.a) rfl
          have y6 := HX.out.below HG.out |>.cell (i := 6) (v := .int .u32 x.1.b) rfl
          have y7 := HX.out.below HG.out |>.cell (i := 7) (v := .int .u32 x.1.c) rfl
          have yl := (HX.out.below HG.out).lt
          clear hG
          go_simp
          exact HK.out _ _ (Below.refl _ _) HG.out rfl
        · intro vs wx hXv hG hd K9 hK
          replace hK : ∀ (uu : Value) (w' : World), Below wx.heap.size wx w' → ((fun wx => Below w1.heap.size w1 wx)) w' → (HP5 65 92 x.1 w1.heap.size) (.v (.pointer (some ⟨bz, 2, none⟩))) uu w' → K9 _ w' := hK
          simp only [Act.put, List.setIfInBounds_toArray, List.set_cons_zero, List.set_cons_succ, hXv] at hK ⊢
          have HK := Lib.hid hK
          have HG := Lib.hid hG
          clear hK hd hXv
          clear hG
          go_simp
          exact HK.out _ _ (Below.refl _ _) HG.out rfl
        · intro vs wx hXv hG hd K9 hK
          have e6 : vs 6 = .pointer (some ⟨bz, 2, none⟩) := hd.get (j := 6) (by simp [depsOf, Region.binds])
          replace hK : ∀ (uu : Value) (w' : World), Below wx.heap.size wx w' → ((fun wx => Below w1.heap.size w1 wx)) w' → (HP5 65 92 x.1 w1.heap.size) (.v (.int .i64 x.1.k)) uu w' → K9 _ w' := hK
          simp only [Act.put, List.setIfInBounds_toArray, List.set_cons_zero, List.set_cons_succ, hXv, e6] at hK ⊢
          have HK := Lib.hid hK
          have HG := Lib.hid hG
          clear hK hd hXv e6
          have y0 := HX.out.below HG.out |>.cell (i := 0) (v := .slice x.2.1 x.1.set.length x.2.2) rfl
          have y1 := HX.out.below HG.out |>.cell (i := 1) (v := .int .i64 x.1.t) rfl
          have y2 := HX.out.below HG.out |>.cell (i := 2) (v := .int .i64 x.1.k) rfl
          have y3 := HX.out.below HG.out |>.cell (i := 3) (v := .int .i64 x.1.n) rfl
          have y4 := HX.out.below HG.out |>.cell (i := 4) (v := .string x.1.x) rfl
          have y5 := HX.out.below HG.out |>.cell (i := 5) (v := .int .i64 x.1.a) rfl
          have y6 := HX.out.below HG.out |>.cell (i := 6) (v := .int .u32 x.1.b) rfl
          have y7 := HX.out.below HG.out |>.cell (i := 7) (v := .int .u32 x.1.c) rfl
          have yl := (HX.out.below HG.out).lt
          clear hG
          go_simp
          exact HK.out _ _ (Below.refl _ _) HG.out rfl
        · intro vs wx hXv hG hd K9 hK
          replace hK : ∀ (uu : Value) (w' : World), Below wx.heap.size wx w' → ((fun wx => Below w1.heap.size w1 wx)) w' → (HP5 65 92 x.1 w1.heap.size) (.v (.pointer (some ⟨bz, 3, none⟩))) uu w' → K9 _ w' := hK
          simp only [Act.put, List.setIfInBounds_toArray, List.set_cons_zero, List.set_cons_succ, hXv] at hK ⊢
          have HK := Lib.hid hK
          have HG := Lib.hid hG
          clear hK hd hXv
          clear hG
          go_simp
          exact HK.out _ _ (Below.refl _ _) HG.out rfl
        · intro vs wx hXv hG hd K9 hK
          have e8 : vs 8 = .pointer (some ⟨bz, 3, none⟩) := hd.get (j := 8) (by simp [depsOf, Region.binds])
          replace hK : ∀ (uu : Value) (w' : World), Below wx.heap.size wx w' → ((fun wx => Below w1.heap.size w1 wx)) w' → (HP5 65 92 x.1 w1.heap.size) (.v (.int .i64 x.1.n)) uu w' → K9 _ w' := hK
          simp only [Act.put, List.setIfInBounds_toArray, List.set_cons_zero, List.set_cons_succ, hXv, e8] at hK ⊢
          have HK := Lib.hid hK
          have HG := Lib.hid hG
          clear hK hd hXv e8
          have y0 := HX.out.below HG.out |>.cell (i := 0) (v := .slice x.2.1 x.1.set.length x.2.2) rfl
          have y1 := HX.out.below HG.out |>.cell (i := 1) (v := .int .i64 x.1.t) rfl
          have y2 := HX.out.below HG.out |>.cell (i := 2) (v := .int .i64 x.1.k) rfl
          have y3 := HX.out.below HG.out |>.cell (i := 3) (v := .int .i64 x.1.n) rfl
          have y4 := HX.out.below HG.out |>.cell (i := 4) (v := .string x.1.x) rfl
          have y5 := HX.out.below HG.out |>.cell (i := 5) (v := .int .i64 x.1.a) rfl
          have y6 := HX.out.below HG.out |>.cell (i := 6) (v := .int .u32 x.1.b) rfl
          have y7 := HX.out.below HG.out |>.cell (i := 7) (v := .int .u32 x.1.c) rfl
          have yl := (HX.out.below HG.out).lt
          clear hG
          go_simp
          exact HK.out _ _ (Below.refl _ _) HG.out rfl
        · intro vs wx hXv hG hd K9 hK
          replace hK : ∀ (uu : Value) (w' : World), Below wx.heap.size wx w' → ((fun wx => Below w1.heap.size w1 wx)) w' → (HP5 65 92 x.1 w1.heap.size) (.v (.pointer (some ⟨bz, 4, none⟩))) uu w' → K9 _ w' := hK
          simp only [Act.put, List.setIfInBounds_toArray, List.set_cons_zero, List.set_cons_succ, hXv] at hK ⊢
          have HK := Lib.hid hK
          have HG := Lib.hid hG
          clear hK hd hXv
          clear hG
          go_simp
          exact HK.out _ _ (Below.refl _ _) HG.out rfl
        · intro vs wx hXv hG hd K9 hK
          have e10 : vs 10 = .pointer (some ⟨bz, 4, none⟩) := hd.get (j := 10) (by simp [depsOf, Region.binds])
          replace hK : ∀ (uu : Value) (w' : World), Below wx.heap.size wx w' → ((fun wx => Below w1.heap.size w1 wx)) w' → (HP5 65 92 x.1 w1.heap.size) (.v (.string x.1.x)) uu w' → K9 _ w' := hK
          simp only [Act.put, List.setIfInBounds_toArray, List.set_cons_zero, List.set_cons_succ, hXv, e10] at hK ⊢
          have HK := Lib.hid hK
          have HG := Lib.hid hG
          clear hK hd hXv e10
          have y0 := HX.out.below HG.out |>.cell (i := 0) (v := .slice x.2.1 x.1.set.length x.2.2) rfl
          have y1 := HX.out.below HG.out |>.cell (i := 1) (v := .int .i64 x.1.t) rfl
          have y2 := HX.out.below HG.out |>.cell (i := 2) (v := .int .i64 x.1.k) rfl
          have y3 := HX.out.below HG.out |>.cell (i := 3) (v := .int .i64 x.1.n) rfl
          have y4 := HX.out.below HG.out |>.cell (i := 4) (v := .string x.1.x) rfl
          have y5 := HX.out.below HG.out |>.cell (i := 5) (v := .int .i64 x.1.a) rfl
          have y6 := HX.out.below HG.out |>.cell (i := 6) (v := .int .u32 x.1.b) rfl
          have y7 := HX.out.below HG.out |>.cell (i := 7) (v := .int .u32 x.1.c) rfl
          have yl := (HX.out.below HG.out).lt
          clear hG
          go_simp
          exact HK.out _ _ (Below.refl _ _) HG.out rfl
        · intro vs wx hXv hG hd K9 hK
          replace hK : ∀ (uu : Value) (w' : World), Below wx.heap.size wx w' → ((fun wx => Below w1.heap.size w1 wx)) w' → (HP5 65 92 x.1 w1.heap.size) (.v (.pointer (some ⟨bz, 5, none⟩))) uu w' → K9 _ w' := hK
          simp only [Act.put, List.setIfInBounds_toArray, List.set_cons_zero, List.set_cons_succ, hXv] at hK ⊢
          have HK := Lib.hid hK
          have HG := Lib.hid hG
          clear hK hd hXv
          clear hG
          go_simp
          exact HK.out _ _ (Below.refl _ _) HG.out rfl
        · intro vs wx hXv hG hd K9 hK
          have e12 : vs 12 = .pointer (some ⟨bz, 5, none⟩) := hd.get (j := 12) (by simp [depsOf, Region.binds])
          replace hK : ∀ (uu : Value) (w' : World), Below wx.heap.size wx w' → ((fun wx => Below w1.heap.size w1 wx)) w' → (HP5 65 92 x.1 w1.heap.size) (.v (.agg #[.int .i64 x.1.a, .int .u32 x.1.b, .int .u32 x.1.c])) uu w' → K9 _ w' := hK
          simp only [Act.put, List.setIfInBounds_toArray, List.set_cons_zero, List.set_cons_succ, hXv, e12] at hK ⊢
          have HK := Lib.hid hK
          have HG := Lib.hid hG
          clear hK hd hXv e12
          have y0 := HX.out.below HG.out |>.cell (i := 0) (v := .slice x.2.1 x.1.set.length x.2.2) rfl
          have y1 := HX.out.below HG.out |>.cell (i := 1) (v := .int .i64 x.1.t) rfl
          have y2 := HX.out.below HG.out |>.cell (i := 2) (v := .int .i64 x.1.k) rfl
          have y3 := HX.out.below HG.out |>.cell (i := 3) (v := .int .i64 x.1.n) rfl
          have y4 := HX.out.below HG.out |>.cell (i := 4) (v := .string x.1.x) rfl
          have y5 := HX.out.below HG.out |>.cell (i := 5) (v := .int .i64 x.1.a) rfl
          have y6 := HX.out.below HG.out |>.cell (i := 6) (v := .int .u32 x.1.b) rfl
          have y7 := HX.out.below HG.out |>.cell (i := 7) (v := .int .u32 x.1.c) rfl
          have yl := (HX.out.below HG.out).lt
          clear hG
          go_simp
          exact HK.out _ _ (Below.refl _ _) HG.out rfl
        · intro vs wx hXv hG hd K9 hK
          have e13 : vs 13 = .agg #[.int .i64 x.1.a, .int .u32 x.1.b, .int .u32 x.1.c] := hd.get (j := 13) (by simp [depsOf, Region.binds])
          replace hK : ∀ (uu : Value) (w' : World), Below wx.heap.size wx w' → ((fun wx => Below w1.heap.size w1 wx)) w' → (HP5 65 92 x.1 w1.heap.size) (.v (.agg #[.int .i64 x.1.a, .int .u32 x.1.b, .int .u32 x.1.c])) uu w' → K9 _ w' := hK
          simp only [Act.put, List.setIfInBounds_toArray, List.set_cons_zero, List.set_cons_succ, hXv, e13] at hK ⊢
          have HK := Lib.hid hK
          have HG := Lib.hid hG
          clear hK hd hXv e13
          have hz := HG.out.size
          go_simp
          go_at_call 29
          refine (stfrom_any x.1.a x.1.b x.1.c wx).mono ?_
          rintro en w9 ⟨rfl, hb⟩
          exact HK.out _ _ hb (HG.out.trans (hb.mono hz)) rfl
        · intro vs wx hXv hG hd K9 hK
          obtain ⟨A3, d3, e3, r3⟩ : ∃ A' c', vs 3 = .slice A' x.1.set.length c' ∧ So encP 2 wx w1.heap.size 92 (.slice A' x.1.set.length c') x.1.set := hd.get (j := 3) (by simp [depsOf, Region.binds])
          have e5 : vs 5 = .int .i64 x.1.t := hd.get (j := 5) (by simp [depsOf, Region.binds])
          have e7 : vs 7 = .int .i64 x.1.k := hd.get (j := 7) (by simp [depsOf, Region.binds])
          have e9 : vs 9 = .int .i64 x.1.n := hd.get (j := 9) (by simp [depsOf, Region.binds])
          have e11 : vs 11 = .string x.1.x := hd.get (j := 11) (by simp [depsOf, Region.binds])
          have e14 : vs 14 = .agg #[.int .i64 x.1.a, .int .u32 x.1.b, .int .u32 x.1.c] := hd.get (j := 14) (by simp [depsOf, Region.binds])
          replace hK : ∀ (uu : Value) (w' : World), Below wx.heap.size wx w' → ((fun wx => Below w1.heap.size w1 wx)) w' → (HP5 65 92 x.1 w1.heap.size) (.ag) uu w' → K9 _ w' := hK
          simp only [Act.put, List.setIfInBounds_toArray, List.set_cons_zero, List.set_cons_succ, hXv, e3, e5, e7, e9, e11, e14] at hK ⊢
          have HK := Lib.hid hK
          have HG := Lib.hid hG
          clear hK hd hXv e3 e5 e7 e9 e11 e14
          clear hG
          go_simp
          exact HK.out _ _ (Below.refl _ _) HG.out ⟨_, _, rfl, r3⟩
        · intro vs wx hXv hG hd K9 hK
          obtain ⟨A15, d15, e15, r15⟩ : ∃ A' c', vs 15 = agP (x.1, A', c') ∧ So encP 2 wx w1.heap.size 92 (.slice A' x.1.set.length c') x.1.set := hd.get (j := 15) (by simp [depsOf, Region.binds])
          replace hK : ∀ (uu : Value) (w' : World), Below wx.heap.size wx w' → ((fun wx => Below w1.heap.size w1 wx)) w' → (HP5 65 92 x.1 w1.heap.size) (.li) uu w' → K9 _ w' := hK
          simp only [Act.put, List.setIfInBounds_toArray, List.set_cons_zero, List.set_cons_succ, hXv, e15] at hK ⊢
          have HK := Lib.hid hK
          have HG := Lib.hid hG
          clear hK hd hXv e15
          have hz := HG.out.size
          clear hG
          go_simp
          have hb : Below wx.heap.size wx (wx.alloc (.cells (ceP (x.1, A15, d15)) 65)) := (Below.refl _ _).alloc (Nat.le_refl _) _
          exact HK.out _ _ hb (HG.out.trans (hb.mono hz)) ⟨wx.heap.size, A15, d15, rfl, hz, heap_alloc_new wx _, r15.below hb⟩
        · intro vs wx hXv hG hd K9 hK
          have e0 : vs 0 = .slice D k cc := hd.get (j := 0) (by simp [depsOf, Region.binds])
          obtain ⟨g16, A16, d16, e16, f16, h16, r16⟩ : ∃ g A' c', vs 16 = .slice (some ⟨g, 0, none⟩) 1 1 ∧ w1.heap.size ≤ g ∧ wx.heap[g]? = some (.cells (ceP (x.1, A', c')) 65) ∧ So encP 2 wx w1.heap.size 92 (.slice A' x.1.set.length c') x.1.set := hd.get (j := 16) (by simp [depsOf, Region.binds])
          replace hK : ∀ (uu : Value) (w' : World), ((fun v w' => ∃ A9 c9 z, (z : Pz).1 = x.1 ∧ v = .slice A9 (k + 1) c9 ∧ Pw w' K 65 92 (.slice A9 (k + 1) c9) (acc ++ [z]) ∧ Below K w1 w')) uu w' → K9 _ w' := hK
          simp only [Act.put, List.setIfInBounds_toArray, List.set_cons_zero, List.set_cons_succ, hXv, e0, e16] at hK ⊢
          have HK := Lib.hid hK
          have HG := Lib.hid hG
          clear hK hd hXv e0 e16
          have hz := HG.out.size
          have hacc := HAC.out.below HG.out
          have hsr : Sr encPz 8 wx wx.heap.size (some ⟨g16, 0, none⟩) 1 [((x.1, A16, d16) : Pz)] := sr_lit h16 rfl
          have hkx : K ≤ wx.heap.size := Nat.le_trans hKW.out hz
          clear hG
          apply step_appE Tryz.underlying25 info_dpt rfl (by decide) encPz_len encPz_one (K := K) (v := .slice D k cc) (l := acc) (A := some ⟨g16, 0, none⟩) (cap := 1) (m := [((x.1, A16, d16) : Pz)]) (K' := wx.heap.size) (s := .tmp 12) (x := .tmp 28)
          case hgd => rfl
          case ho => rfl
          case hs => rfl
          case hx => rfl
          case hown => exact hacc.so
          case hsrc => exact hsr
          case hm => unfold maxLen; simp only [List.length_singleton]; have := HAL.out; omega
          case hsz => simp only [List.length_singleton]; have := HAL.out; omega
          case hbase => exact hkx
          intro A5 c5 w5 so5 hg5
          have hp5 : Pw w5 K 65 92 (.slice A5 (acc.length + 1) c5) (acc ++ [((x.1, A16, d16) : Pz)]) := hacc.push (by decide) (r16.more hKW.out) hg5 so5
          simp only [Act.put, List.setIfInBounds_toArray, List.set_cons_zero, List.set_cons_succ]
          exact HK.out _ _ ⟨A5, c5, (x.1, A16, d16), rfl, by rw [HAE.out] <;> rfl, by rw [HAE.out] at hp5; exact hp5, (HG.out.mono hKW.out).trans (grown_belowE (Below.refl _ _) hg5 hkx (fun _ e => (hacc.so.lt _ e).1))⟩
        · intro vs wx hE K9 hK
          simp only [Act.put, List.setIfInBounds_toArray, List.set_cons_zero, List.set_cons_succ] at hK ⊢
          have HK := Lib.hid hK
          clear hK hE
          go_simp
          exact HK.out
      case hend =>
        intro vs wx hE e18
        obtain ⟨A9, c9, z9, ez, ev, hp9, hb9⟩ := hE
        rw [ev] at e18
        rw [e18]
        clear e18 ev
        have HP9 := Lib.hid hp9
        have HB9 := Lib.hid hb9
        have HEZ : Hid ((acc ++ [z9]).map Prod.fst = (l.map Prod.fst).take (k + 1)) := Lib.hid (by
          rw [List.map_append, HAM.out, ← List.map_take, ← List.map_take, List.take_succ_eq_append_getElem hlt, List.map_append]
          simp only [List.map_cons, List.map_nil, ez, HXL.out])
        have HAE9 : Hid ((acc ++ [z9]).length = k + 1) := Lib.hid (by rw [List.length_append, HAE.out]; rfl)
        clear hp9 hb9 ez
        go_wp2_with fail
        go_roundw
        case rel => exact ⟨k + 1, c9, A9, acc ++ [z9], by omega, by go_num, rfl, HEZ.out, HAE9.out, HP9.out, HB1.out.trans HB9.out⟩
        case measure => simp [intOf]; omega
    · obtain rfl : k = l.length := by omega
      have hml : (l.map Prod.fst).take l.length = l.map Prod.fst := by rw [List.take_of_length_le (by rw [List.length_map]; exact Nat.le_refl _)]
      rw [hml] at ham
      have hll : (l.map Prod.fst).length = l.length := List.length_map _
      go_wp2
      go_ret
      refine ⟨D, cc, acc, ?_, ham, ?_, HKK.out ▸ hbl⟩
      · rw [hll]; rfl
      · rw [hll, ← HKK.out]; exact hpw
end Go.Proofs.YtcfbcidakddhfaaGreatDoor
