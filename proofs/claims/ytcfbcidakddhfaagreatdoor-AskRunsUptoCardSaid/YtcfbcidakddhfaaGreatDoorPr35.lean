/- The program's ofFirstSet and cellsOf. -/
import Derived.Test.YtcfbcidakddhfaaGreatDoorPr30
import Derived.Test.YtcfbcidakddhfaaGreatDoorPr13
import Derived.Test.YtcfbcidakddhfaaGreatDoorPr7
import Derived.Test.YtcfbcidakddhfaaGreatDoorPr15
import Derived.Test.YtcfbcidakddhfaaGreatDoorPr34
import Derived.Test.YtcfbcidakddhfaaGreatDoorPr5
import Derived.Test.YtcfbcidakddhfaaGreatDoorPr28
namespace Go.Proofs.YtcfbcidakddhfaaGreatDoor
open Go.RowKit Go.BigFrame

theorem info_pt : (Tryz.prog.info? 52).map (fun i => (i.zero, i.size, i.bytes)) = some (some (.agg #[.slice none 0 0, .int .i64 0, .int .i64 0, .int .i64 0, .string ⟨#[]⟩, .int .i64 0, .int .u32 0, .int .u32 0]), 8, 80) := by kernel_rfl
abbrev agP (p : Pz) : Value := .agg #[.slice p.2.1 p.1.set.length p.2.2, .int .i64 p.1.t, .int .i64 p.1.k, .int .i64 p.1.n, .string p.1.x, .int .i64 p.1.a, .int .u32 p.1.b, .int .u32 p.1.c]
abbrev ceP (p : Pz) : Array Value := #[.slice p.2.1 p.1.set.length p.2.2, .int .i64 p.1.t, .int .i64 p.1.k, .int .i64 p.1.n, .string p.1.x, .int .i64 p.1.a, .int .u32 p.1.b, .int .u32 p.1.c]
theorem undP : Tryz.prog.underlying 28 = some (.slice (Tryz.prog.elem 28)) := by kernel_rfl
theorem szP (w : World) : (sizeOf (Tryz.prog.elem 28)).run Tryz.prog w = .ok 8 w := by kernel_rfl
/-- The list's first set, seen through the box that the closure holds. -/
structure Fb (w : World) (K b : Nat) (A : Option Addr) (n cap : Nat) (l : List Pz) : Prop where
  ps : Ps w K A cap l
  hk : K ≤ w.heap.size
  bx : w.cell? ⟨b, 0, none⟩ = some (.slice A n cap)
  hn : l.length = n
theorem Fb.below {w w' : World} {K b : Nat} {A : Option Addr} {n cap : Nat} {l : List Pz} (h : Fb w K b A n cap l) (hb : Below w.heap.size w w') : Fb w' K b A n cap l := ⟨h.ps.below (hb.mono h.hk), Nat.le_trans h.hk hb.size, kept hb h.bx, h.hn⟩
theorem Fb.drewN {w : World} {K b : Nat} {A : Option Addr} {n cap : Nat} {l : List Pz} (h : Fb w K b A n cap l) (m : Nat) : Fb (w.drewN m) K b A n cap l := ⟨⟨h.ps.sr.drewN m, fun p hp => (h.ps.st p hp).drewN m⟩, h.hk, h.bx, h.hn⟩
theorem below_drewP {B : Nat} {a w : World} (h : Below B a w) (n : Nat) : Below B a (w.drewN n) := ⟨h.os, h.tape, h.output, h.size, h.block⟩
def setZ (l : List Pz) : List Pp := setAt (l.map Prod.fst)
/-- What the closure's statement sees. -/
structure Fc (w wx : World) (b n cap : Nat) (ad : Addr) (p x : Pz) : Prop where
  c0 : wx.cell? ⟨w.heap.size, 0, none⟩ = some (.slice p.2.1 p.1.set.length p.2.2)
  cb : wx.cell? ⟨b, 0, none⟩ = some (.slice (some ad) n cap)
  ca : wx.cell? ad = some (.slice x.2.1 x.1.set.length x.2.2)
  bl : Below w.heap.size w wx
theorem Fc.below {w wx wy : World} {b n cap : Nat} {ad : Addr} {p x : Pz} (h : Fc w wx b n cap ad p x) (hb : Below wx.heap.size wx wy) : Fc w wy b n cap ad p x :=
  ⟨kept hb h.c0, kept hb h.cb, kept hb h.ca, h.bl.trans (hb.mono h.bl.size)⟩
set_option maxRecDepth 100000 in
set_option maxHeartbeats 1600000 in
theorem first1_any (p : Pz) (K b n cap : Nat) (A : Option Addr) (l : List Pz) (hl : 0 < l.length) (w : World) (h : Fb w K b A n cap l) (hp : Lr w K p.2.1 p.2.2 p.1.set) :
    Calls Tryz.prog 35 #[agP p, .pointer (some ⟨b, 0, none⟩)] w fun e w' => e = .returned (.bool (!(cmpL p.1.set (setZ l) == 0))) ∧ Below w.heap.size w w' := by
  obtain ⟨ad, rfl, hadK, h0, _⟩ := ps_cells h.ps.sr hl
  have hs : setZ l = l[0].1.set := by
    cases l with
    | nil => simp at hl
    | cons x r => rfl
  rw [hs]
  have hL := h.ps.st l[0] (List.getElem_mem hl)
  generalize l[0] = x at *
  have e00 : ad.add (0 * 8) = ad := by rw [Nat.zero_mul]; exact el_add_zero ad
  rw [e00] at h0
  have hn := h.hn
  have hbx := h.bx
  have hk := h.hk
  have hblt := World.block_lt_of_cell? w _ hbx
  have B0 : Below w.heap.size w (w.alloc (.cells (ceP p) 52)) := (Below.refl _ _).alloc (Nat.le_refl _) _
  have HC := Lib.hid (fun W (hW : Below w.heap.size w W) => compareL_any K p.2.1 x.2.1 p.1.set.length x.1.set.length p.2.2 x.2.2 p.1.set x.1.set W rfl rfl (hp.below (hW.mono hk)) (hL.below (hW.mono hk)) (Nat.le_trans hk hW.size))
  generalize cmpL p.1.set x.1.set = r at *
  have h0' : (w.alloc (.cells (ceP p) 52)).cell? ad = some (.slice x.2.1 x.1.set.length x.2.2) := keptA h0
  have hbx' : (w.alloc (.cells (ceP p) 52)).cell? ⟨b, 0, none⟩ = some (.slice (some ad) n cap) := keptA hbx
  have hb0' : (w.alloc (.cells (ceP p) 52)).cell? ⟨w.heap.size, 0, none⟩ = some (.slice p.2.1 p.1.set.length p.2.2) := by simp [go_sem]
  have hn0 : 0 < n := by omega
  have HB0 := Lib.hid B0
  obtain ⟨W0, hW0⟩ : ∃ W0, W0 = w.alloc (.cells (ceP p) 52) := ⟨_, rfl⟩
  rw [← hW0] at h0' hbx' hb0' HB0
  have h0c : W0.drew.cell? ⟨w.heap.size, 0, none⟩ = some (.slice p.2.1 p.1.set.length p.2.2) := hb0'
  have hbc : W0.drew.cell? ⟨b, 0, none⟩ = some (.slice (some ad) n cap) := hbx'
  have hac : W0.drew.cell? ad = some (.slice x.2.1 x.1.set.length x.2.2) := h0'
  have HW := Lib.hid hW0
  clear hW0 hbx h0 hL hp h hs hk B0 h0' hbx' hb0' hblt e00 hadK hl
  go_enter Tryz.func35, Tryz.ntmps35
  go_upto_region 1 with fail
  rw [← HW.out]
  clear HW
  apply region_V (fun (pv : Value) u (_ : World) => u = pv) (fun wx => Fc w wx b n cap ad p x) [.pointer (some ⟨w.heap.size, 0, none⟩), .slice p.2.1 p.1.set.length p.2.2, .slice (some ad) n cap, .pointer (some ad), .pointer (some ad), .slice x.2.1 x.1.set.length x.2.2, .int .i64 r, .bool (!(r == 0)), .bool (!(r == 0))] (undef)
  case mono => exact fun p v w0 w1 h hb => h
  case hm => kernel_rfl
  case hf => kernel_rfl
  case hQ => exact (by intro c x y w e h; exact And.intro (e.symm.trans (And.left h)) (And.right h))
  case hF => intro vs; simp only [putAll, Act.put, List.setIfInBounds_toArray, List.set_cons_zero, List.set_cons_succ, Nat.reduceAdd]; rfl
  case h0 => exact ⟨h0c, hbc, hac, ⟨HB0.out.os, HB0.out.tape, HB0.out.output, HB0.out.size, HB0.out.block⟩⟩
  case hstep =>
    repeat' (first | exact AllOps.nil | apply AllOps.cons)
    · intro vs wx hG hd K hK
      replace hK : ∀ (uu : Value) (w' : World), Below wx.heap.size wx w' → ((fun wx => Fc w wx b n cap ad p x)) w' → (fun (pv : Value) u (_ : World) => u = pv) (.pointer (some ⟨w.heap.size, 0, none⟩)) uu w' → K _ w' := hK
      simp only [Act.put, List.setIfInBounds_toArray, List.set_cons_zero, List.set_cons_succ] at hK ⊢
      have HK := Lib.hid hK
      have HG := Lib.hid hG
      clear hK hd
      clear hG
      go_simp
      exact HK.out _ _ (Below.refl _ _) HG.out rfl
    · intro vs wx hG hd K hK
      have e0 : vs 0 = .pointer (some ⟨w.heap.size, 0, none⟩) := hd.get (j := 0) (by simp [depsOf, Region.binds])
      replace hK : ∀ (uu : Value) (w' : World), Below wx.heap.size wx w' → ((fun wx => Fc w wx b n cap ad p x)) w' → (fun (pv : Value) u (_ : World) => u = pv) (.slice p.2.1 p.1.set.length p.2.2) uu w' → K _ w' := hK
      simp only [Act.put, List.setIfInBounds_toArray, List.set_cons_zero, List.set_cons_succ, e0] at hK ⊢
      have HK := Lib.hid hK
      have HG := Lib.hid hG
      clear hK hd e0
      have y0 := HG.out.c0
      have y1 := HG.out.cb
      have y2 := HG.out.ca
      clear hG
      go_simp
      exact HK.out _ _ (Below.refl _ _) HG.out rfl
    · intro vs wx hG hd K hK
      replace hK : ∀ (uu : Value) (w' : World), Below wx.heap.size wx w' → ((fun wx => Fc w wx b n cap ad p x)) w' → (fun (pv : Value) u (_ : World) => u = pv) (.slice (some ad) n cap) uu w' → K _ w' := hK
      simp only [Act.put, List.setIfInBounds_toArray, List.set_cons_zero, List.set_cons_succ] at hK ⊢
      have HK := Lib.hid hK
      have HG := Lib.hid hG
      clear hK hd
      have y0 := HG.out.c0
      have y1 := HG.out.cb
      have y2 := HG.out.ca
      clear hG
      go_simp
      exact HK.out _ _ (Below.refl _ _) HG.out rfl
    · intro vs wx hG hd K hK
      have e2 : vs 2 = .slice (some ad) n cap := hd.get (j := 2) (by simp [depsOf, Region.binds])
      replace hK : ∀ (uu : Value) (w' : World), Below wx.heap.size wx w' → ((fun wx => Fc w wx b n cap ad p x)) w' → (fun (pv : Value) u (_ : World) => u = pv) (.pointer (some ad)) uu w' → K _ w' := hK
      simp only [Act.put, List.setIfInBounds_toArray, List.set_cons_zero, List.set_cons_succ, e2] at hK ⊢
      have HK := Lib.hid hK
      have HG := Lib.hid hG
      clear hK hd e2
      clear hG
      go_simp
      exact HK.out _ _ (Below.refl _ _) HG.out rfl
    · intro vs wx hG hd K hK
      have e3 : vs 3 = .pointer (some ad) := hd.get (j := 3) (by simp [depsOf, Region.binds])
      replace hK : ∀ (uu : Value) (w' : World), Below wx.heap.size wx w' → ((fun wx => Fc w wx b n cap ad p x)) w' → (fun (pv : Value) u (_ : World) => u = pv) (.pointer (some ad)) uu w' → K _ w' := hK
      simp only [Act.put, List.setIfInBounds_toArray, List.set_cons_zero, List.set_cons_succ, e3] at hK ⊢
      have HK := Lib.hid hK
      have HG := Lib.hid hG
      clear hK hd e3
      clear hG
      go_simp
      exact HK.out _ _ (Below.refl _ _) HG.out rfl
    · intro vs wx hG hd K hK
      have e4 : vs 4 = .pointer (some ad) := hd.get (j := 4) (by simp [depsOf, Region.binds])
      replace hK : ∀ (uu : Value) (w' : World), Below wx.heap.size wx w' → ((fun wx => Fc w wx b n cap ad p x)) w' → (fun (pv : Value) u (_ : World) => u = pv) (.slice x.2.1 x.1.set.length x.2.2) uu w' → K _ w' := hK
      simp only [Act.put, List.setIfInBounds_toArray, List.set_cons_zero, List.set_cons_succ, e4] at hK ⊢
      have HK := Lib.hid hK
      have HG := Lib.hid hG
      clear hK hd e4
      have y0 := HG.out.c0
      have y1 := HG.out.cb
      have y2 := HG.out.ca
      clear hG
      go_simp
      exact HK.out _ _ (Below.refl _ _) HG.out rfl
    · intro vs wx hG hd K hK
      have e1 : vs 1 = .slice p.2.1 p.1.set.length p.2.2 := hd.get (j := 1) (by simp [depsOf, Region.binds])
      have e5 : vs 5 = .slice x.2.1 x.1.set.length x.2.2 := hd.get (j := 5) (by simp [depsOf, Region.binds])
      replace hK : ∀ (uu : Value) (w' : World), Below wx.heap.size wx w' → ((fun wx => Fc w wx b n cap ad p x)) w' → (fun (pv : Value) u (_ : World) => u = pv) (.int .i64 r) uu w' → K _ w' := hK
      simp only [Act.put, List.setIfInBounds_toArray, List.set_cons_zero, List.set_cons_succ, e1, e5] at hK ⊢
      have HK := Lib.hid hK
      have HG := Lib.hid hG
      clear hK hd e1 e5
      clear hG
      go_simp
      go_at_call 36
      refine (HC.out _ HG.out.bl).mono ?_
      rintro e w1 ⟨rfl, hb⟩
      exact HK.out _ _ hb (HG.out.below hb) rfl
    · intro vs wx hG hd K hK
      have e6 : vs 6 = .int .i64 r := hd.get (j := 6) (by simp [depsOf, Region.binds])
      replace hK : ∀ (uu : Value) (w' : World), Below wx.heap.size wx w' → ((fun wx => Fc w wx b n cap ad p x)) w' → (fun (pv : Value) u (_ : World) => u = pv) (.bool (!(r == 0))) uu w' → K _ w' := hK
      simp only [Act.put, List.setIfInBounds_toArray, List.set_cons_zero, List.set_cons_succ, e6] at hK ⊢
      have HK := Lib.hid hK
      have HG := Lib.hid hG
      clear hK hd e6
      clear hG
      go_simp
      exact HK.out _ _ (Below.refl _ _) HG.out rfl
    · intro vs wx hG hd K hK
      have e7 : vs 7 = .bool (!(r == 0)) := hd.get (j := 7) (by simp [depsOf, Region.binds])
      replace hK : ∀ (uu : Value) (w' : World), Below wx.heap.size wx w' → ((fun wx => Fc w wx b n cap ad p x)) w' → (fun (pv : Value) u (_ : World) => u = pv) (.bool (!(r == 0))) uu w' → K _ w' := hK
      simp only [Act.put, List.setIfInBounds_toArray, List.set_cons_zero, List.set_cons_succ, e7] at hK ⊢
      have HK := Lib.hid hK
      have HG := Lib.hid hG
      clear hK hd e7
      clear hG
      go_simp
      exact HK.out _ _ (Below.refl _ _) HG.out rfl
  case hend =>
    intro vs wx hG hv
    have e8 : vs 8 = .bool (!(r == 0)) := hv 8 (by decide)
    have HB := Lib.hid hG.bl
    clear hv hG
    rw [e8]
    go_wp2_with fail
    go_ret
    exact ⟨rfl, HB.out⟩
/-- How many points of the first one's set, as IndexFunc says it. -/
def ixP (l : List Pz) : Int := if firstN (l.map Prod.fst) = l.length then -1 else (firstN (l.map Prod.fst) : Int)
set_option maxRecDepth 100000 in
set_option maxHeartbeats 1600000 in
theorem indexP_any (K b n cap : Nat) (A : Option Addr) (l : List Pz) (hl : 0 < l.length) (w : World) (h : Fb w K b A n cap l) :
    Calls Tryz.prog 34 #[.slice A n cap, .func (.func 35) #[] #[.pointer (some ⟨b, 0, none⟩)]] w fun e w' => e = .returned (.int .i64 (ixP l)) ∧ Below w.heap.size w w' := by
  have hle := h.ps.sr.le
  have hmax := h.ps.sr.max
  have hn := h.hn
  unfold maxLen at hmax
  subst hn
  have HF := Lib.hid h
  clear h
  go_enter Tryz.func34, Tryz.ntmps34
  go_wp2
  go_loopw [8] (fun i wr => ∃ (k : Nat), k ≤ l.length ∧ i = .int .i64 k ∧ Hid (∀ j (hj : j < l.length), j < k → cmpL l[j].1.set (setZ l) = 0) ∧ Below w.heap.size w wr) (fun i _ => l.length - (intOf i).toNat)
  case atStart => exact ⟨0, Nat.zero_le _, rfl, Lib.hid (fun j _ h => absurd h (by omega)), Below.refl _ _⟩
  case round =>
    obtain ⟨k, hk, rfl, HJ, hbl⟩ := hrel
    rename World => wr
    have z := hbl.size
    have HFW := Lib.hid (HF.out.below hbl)
    by_cases hlt : k < l.length
    · obtain ⟨ad, hA, hadK, g0, g1, g2, g3, g4, g5, g6, g7⟩ := ps_cells HFW.out.ps.sr hlt
      subst hA
      have HX : Hid (∀ x, l[k] = x → (cmpL x.1.set (setZ l) ≠ 0 → ixP l = (k : Int)) ∧ (cmpL x.1.set (setZ l) = 0 → ∀ j (hj : j < l.length), j < k + 1 → cmpL l[j].1.set (setZ l) = 0)) := Lib.hid (fun x hx => ⟨fun hT => by
          have e : firstN (l.map Prod.fst) = k := firstN_of (by rw [List.length_map]; omega) (fun j hj hjk => by
            rw [List.length_map] at hj
            rw [List.getElem_map]
            exact HJ.out j hj hjk) (fun hj => by
            rw [List.getElem_map, hx]
            exact hT)
          unfold ixP
          rw [e, if_neg (by omega)], fun hT j hj hjk => by
          by_cases e : j = k
          · subst e; rw [hx]; exact hT
          · exact HJ.out j hj (by omega)⟩)
      have hst := HFW.out.ps.st l[k] (List.getElem_mem hlt)
      generalize hxx : l[k] = x at *
      have HXX := Lib.hid (HX.out x rfl)
      clear HX hxx
      have HA := Lib.hid (first1_any x K b l.length cap (some ad) l hl wr HFW.out hst)
      have HB := Lib.hid hbl
      clear hst hbl
      cases hd : (cmpL x.1.set (setZ l) == 0) with
      | false =>
        rw [hd] at HA
        have HI := Lib.hid (HXX.out.1 (by simpa using hd))
        clear hd
        go_wp2_with (go_at_call 35; refine HA.out.mono ?_; rintro e w1 ⟨rfl, hb1⟩)
        go_ret
        exact ⟨ret_int HI.out.symm, HB.out.trans (hb1.mono z)⟩
      | true =>
        rw [hd] at HA
        have HI := Lib.hid (HXX.out.2 (by simpa using hd))
        clear hd
        go_wp2_with (go_at_call 35; refine HA.out.mono ?_; rintro e w1 ⟨rfl, hb1⟩)
        go_roundw
        case rel => exact ⟨k + 1, by omega, by go_num, Lib.hid HI.out, HB.out.trans (hb1.mono z)⟩
        case measure => simp [intOf]; omega
    · have hkl : k = l.length := by omega
      subst hkl
      have HI : Hid (ixP l = -1) := Lib.hid (if_pos (firstN_of (by rw [List.length_map]; omega) (fun j hj _ => by
        rw [List.length_map] at hj
        rw [List.getElem_map]
        exact HJ.out j hj hj) (fun hj => by rw [List.length_map] at hj; omega)))
      go_wp2
      go_ret
      exact ⟨ret_int HI.out.symm, hbl⟩
set_option maxRecDepth 100000 in
set_option maxHeartbeats 800000 in
theorem ofFirst_any (K n cap : Nat) (A : Option Addr) (l : List Pz) (hl : 0 < l.length) (w : World) (hp : Ps w K A cap l) (hK : K ≤ w.heap.size) (hn : l.length = n) :
    Calls Tryz.prog 16 #[.slice A n cap] w fun e w' => e = .returned (.int .i64 (firstN (l.map Prod.fst) : Nat)) ∧ Below w.heap.size w w' := by
  subst hn
  have hle := hp.sr.le
  have B0 : Below w.heap.size w (w.alloc (.cells #[.slice A l.length cap] 28)) := (Below.refl _ _).alloc (Nat.le_refl _) _
  have HI := Lib.hid (indexP_any K w.heap.size l.length cap A l hl (w.alloc (.cells #[.slice A l.length cap] 28)) ⟨hp.alloc hK _, by simp; omega, by simp [go_sem], rfl⟩)
  have HB := Lib.hid B0
  have c0 : (w.alloc (.cells #[.slice A l.length cap] 28)).cell? ⟨w.heap.size, 0, none⟩ = some (.slice A l.length cap) := by simp [go_sem]
  by_cases h0 : firstN (l.map Prod.fst) = l.length
  · have e : ixP l = -1 := if_pos h0
    rw [h0]
    rw [e] at HI
    clear e h0 hp
    go_enter Tryz.func16, Tryz.ntmps16
    go_wp2_with fail
    refine HI.out.mono ?_
    rintro e w1 ⟨rfl, hb1⟩
    have c1 := kept hb1 c0
    have hb2 := HB.out.trans (hb1.mono HB.out.size)
    have hz := World.block_lt_of_cell? w1 _ c1
    clear B0 c0
    go_wp2_with fail
    go_ret
    exact ⟨rfl, hb2⟩
  · have e : ixP l = (firstN (l.map Prod.fst) : Int) := if_neg h0
    rw [e] at HI
    generalize firstN (l.map Prod.fst) = q at *
    clear e h0 hp
    go_enter Tryz.func16, Tryz.ntmps16
    go_wp2_with fail
    refine HI.out.mono ?_
    rintro e w1 ⟨rfl, hb1⟩
    have hb2 := HB.out.trans (hb1.mono HB.out.size)
    clear B0 c0
    go_wp2_with fail
    go_ret
    exact ⟨rfl, hb2⟩
end Go.Proofs.YtcfbcidakddhfaaGreatDoor
