/- A relay: enter. -/
import Derived.Test.YtpnhdocimjkakaaPn32
import Derived.Test.YtpnhdocimjkakaaPn9
import Derived.Test.YtpnhdocimjkakaaPn5
namespace Go.Proofs.Ytpnhdocimjkakaa
open Go.RowKit Go.BigFrame Go.Maps

inductive Vk8 where
  | v (x : Value)
  | cp
  | li
  | ap
def Vk8.isAp : Vk8 → Bool
  | .ap => true
  | _ => false
/-- What is known of a value of the statement that appends an entry. -/
def HE8 (ep : Int) (bs : List UInt8) (Kb : Nat) (lg : List Ez) (B : Nat) : Vk8 → Value → World → Prop
  | .v x, u, _ => u = x
  | .cp, u, _ => ∃ A c, u = .agg #[.int .i64 ep, .slice A bs.length c]
  | .li, u, w => ∃ g A c, u = .slice (some ⟨g, 0, none⟩) 1 1 ∧ B ≤ g ∧ w.heap[g]? = some (.cells #[.int .i64 ep, .slice A bs.length c] 102)
  | .ap, u, w => ∃ L l A c, u = .slice L (lg.length + 1) l ∧ So encEz 2 w Kb 102 (.slice L (lg.length + 1) l) (lg ++ [(ep, bs, A, c)])
section
variable {ep : Int} {bs : List UInt8} {Kb : Nat} {lg : List Ez} {B : Nat} {y : Vk8} {u : Value} {w w' : World}
theorem HE8.mono (h : HE8 ep bs Kb lg B y u w) (hb : Below w.heap.size w w') : HE8 ep bs Kb lg B y u w' := by
  cases y with
  | v x => exact h
  | cp => exact h
  | li => obtain ⟨g, A, c, e, hg, hc⟩ := h; exact ⟨g, A, c, e, hg, (hb.block g (Array.getElem?_eq_some_iff.1 hc).1).trans hc⟩
  | ap => obtain ⟨L, l, A, c, e, hs⟩ := h; exact ⟨L, l, A, c, e, hs.below hb⟩
theorem HE8.grown (hy : y.isAp = false) (h : HE8 ep bs Kb lg B y u w) {v : Value} (hg : w.grownBy w' v.ownBlock) (hB : ∀ g, v.ownBlock = some g → g < B) : HE8 ep bs Kb lg B y u w' := by
  cases y with
  | v x => exact h
  | cp => exact h
  | li =>
    obtain ⟨g, A, c, e, hgB, hc⟩ := h
    refine ⟨g, A, c, e, hgB, (hg.block g (Array.getElem?_eq_some_iff.1 hc).1 fun e => ?_).trans hc⟩
    have := hB g e.symm
    omega
  | ap => cases hy
end
inductive Ve8 where
  | v (x : Value)
  | rd
def HF8 (rl : Nat) : Ve8 → Value → Prop
  | .v x, u => u = x
  | .rd, u => ∃ A c, u = .slice A rl c
/-- What stands while that statement's operations come up. -/
structure Ge (W0 : World) (fl : Bool) (wx : World) (Kb b mb : Nat) (MA : Option Addr) (mc : Nat) (LA : Option Addr) (lc n : Nat) (f : Int → Int) (h : Int → Bool) (x : Rs) (xa : Nat) (ep : Int) (bs : List UInt8) (A : Option Addr) (cap K0 : Nat) : Prop where
  sz : W0.heap.size ≤ wx.heap.size
  bl : Below Kb W0 wx
  bx : Bxo wx b (rc x MA mc LA lc mb) 96
  ms : So encI 1 wx Kb 3 (.slice MA x.ms.length mc) x.ms
  mp : Im wx mb n f h
  xb : Bxo wx xa #[.int .i64 ep, .slice A bs.length cap] 102
  cm : Bs wx K0 A cap bs
  lt : ∀ g, (Value.slice LA x.lg.length lc).ownBlock = some g → g < W0.heap.size
  lx : ∀ g, (Value.slice LA x.lg.length lc).ownBlock = some g → g ≠ xa
  la : 0 < bs.length → ∀ ad : Addr, A = some ad → ∀ g, (Value.slice LA x.lg.length lc).ownBlock = some g → g ≠ ad.block
  hk : Kb ≤ W0.heap.size
  h0 : K0 ≤ W0.heap.size
  kb : Kb ≤ b
  km : Kb ≤ mb
  lg : fl = false → So encEz 2 wx Kb 102 (.slice LA x.lg.length lc) x.lg
def EntD (W0 wx : World) (Kb b mb : Nat) (MA : Option Addr) (mc n : Nat) (f : Int → Int) (h : Int → Bool) (x : Rs) (xa : Nat) (ep : Int) (bs : List UInt8) (A : Option Addr) (cap K0 : Nat) : Prop :=
  ∃ L l A' c', Rl wx Kb b mb MA mc L l n f h { x with lg := x.lg ++ [(ep, bs, A', c')] } ∧ Below Kb W0 wx ∧ Bxo wx xa #[.int .i64 ep, .slice A bs.length cap] 102 ∧ Bs wx K0 A cap bs
section
variable {W0 wx wy : World} {fl : Bool} {Kb b mb : Nat} {MA LA : Option Addr} {mc lc n : Nat} {f : Int → Int} {h : Int → Bool} {x : Rs} {xa : Nat} {ep : Int} {bs : List UInt8} {A : Option Addr} {cap K0 : Nat}
theorem Ge.below (H : Ge W0 fl wx Kb b mb MA mc LA lc n f h x xa ep bs A cap K0) (hb : Below wx.heap.size wx wy) : Ge W0 fl wy Kb b mb MA mc LA lc n f h x xa ep bs A cap K0 :=
  ⟨Nat.le_trans H.sz hb.size, H.bl.trans (hb.mono (Nat.le_trans H.hk H.sz)), H.bx.below hb, H.ms.below hb, H.mp.below hb, H.xb.below hb, H.cm.below (hb.mono (Nat.le_trans H.h0 H.sz)), H.lt, H.lx, H.la, H.hk, H.h0, H.kb, H.km, fun e => (H.lg e).below hb⟩
theorem Ge.app (H : Ge W0 fl wx Kb b mb MA mc LA lc n f h x xa ep bs A cap K0) (hl : So encEz 2 wx Kb 102 (.slice LA x.lg.length lc) x.lg) (hg : wx.grownBy wy (Value.slice LA x.lg.length lc).ownBlock) : Ge W0 true wy Kb b mb MA mc LA lc n f h x xa ep bs A cap K0 := by
  have t : Tn (fun k => some k = (Value.slice LA x.lg.length lc).ownBlock) wx wy := Tn.ofGrown hg
  have hb : Below Kb wx wy := t.below (Nat.le_trans H.hk H.sz) (fun k _ e => (hl.lt k e.symm).1)
  exact ⟨Nat.le_trans H.sz hb.size, H.bl.trans hb, H.bx.tn t (H.bx.neS hl (by decide)), H.ms.tn t (H.ms.apartX hl (by decide)), H.mp.tn t (fun e => H.mp.neS hl _ e.symm rfl), H.xb.tn t (fun e => H.lx _ e.symm rfl), t.bs H.cm (fun h0 ad e1 e2 => H.la h0 ad e1 _ e2.symm rfl), H.lt, H.lx, H.la, H.hk, H.h0, H.kb, H.km, fun e => by cases e⟩
theorem Ge.fin (H : Ge W0 fl wx Kb b mb MA mc LA lc n f h x xa ep bs A cap K0) {L : Option Addr} {l : Nat} {A' : Option Addr} {c' : Nat} (hs : So encEz 2 wx Kb 102 (.slice L (x.lg.length + 1) l) (x.lg ++ [(ep, bs, A', c')])) :
    Rl (wx.setCell ⟨b, 4, none⟩ (.slice L (x.lg.length + 1) l)) Kb b mb MA mc L l n f h { x with lg := x.lg ++ [(ep, bs, A', c')] } ∧ Below Kb W0 (wx.setCell ⟨b, 4, none⟩ (.slice L (x.lg.length + 1) l)) ∧ Bxo (wx.setCell ⟨b, 4, none⟩ (.slice L (x.lg.length + 1) l)) xa #[.int .i64 ep, .slice A bs.length cap] 102 ∧ Bs (wx.setCell ⟨b, 4, none⟩ (.slice L (x.lg.length + 1) l)) K0 A cap bs ∨ ¬ (0 < bs.length → ∀ ad : Addr, A = some ad → ad.block ≠ b) := by
  by_cases hab : 0 < bs.length → ∀ ad : Addr, A = some ad → ad.block ≠ b
  · left
    have e : (x.lg ++ [(ep, bs, A', c')]).length = x.lg.length + 1 := by rw [List.length_append]; rfl
    have t := Tn.setCell wx b 4 (.slice L (x.lg.length + 1) l)
    refine ⟨⟨?_, H.ms.tn t (H.ms.neB H.bx (by decide)), ?_, H.mp.tn t (fun e => H.mp.neB H.bx e.symm), H.kb, H.km⟩, H.bl.setCell (p := ⟨b, 4, none⟩) H.kb _, H.xb.other (H.xb.ne H.bx (by decide)), t.bs H.cm hab⟩
    · have := H.bx.set 4 (.slice L (x.lg.length + 1) l)
      show Bxo _ b #[.int .i64 x.id, .int .i64 x.ep, .int .i64 x.pr, .slice MA x.ms.length mc, .slice L (x.lg ++ [(ep, bs, A', c')]).length l, .int .i64 x.jo, .int .i64 x.su, .map (some mb), .bool x.ac] _
      rw [e]
      exact this
    · show So encEz 2 _ Kb _ (.slice L (x.lg ++ [(ep, bs, A', c')]).length l) (x.lg ++ [(ep, bs, A', c')])
      rw [e]
      exact hs.tn t (hs.neB H.bx (by decide))
  · exact .inr hab
end
theorem ent_ne {b : Nat} {LA A : Option Addr} {lc cap : Nat} {x : Rs} {ep : Int} {bs : List UInt8} : ∀ j, Nat.beq j 8 = false → Vk8.isAp (([.v (.pointer (some ⟨b, 0, none⟩)), .v (.pointer (some ⟨b, 0, none⟩)), .v (.pointer (some ⟨b, 0, none⟩)), .v (.pointer (some ⟨b, 4, none⟩)), .v (.slice LA x.lg.length lc), .v (.agg #[.int .i64 ep, .slice A bs.length cap]), .cp, .li, .ap, .v (.pointer (some ⟨b, 0, none⟩)), .v (.pointer (some ⟨b, 4, none⟩)), .v undef] : List Vk8).getD j (.v undef)) = false
  | 0, _ => rfl
  | 1, _ => rfl
  | 2, _ => rfl
  | 3, _ => rfl
  | 4, _ => rfl
  | 5, _ => rfl
  | 6, _ => rfl
  | 7, _ => rfl
  | 8, h => by cases h
  | 9, _ => rfl
  | 10, _ => rfl
  | 11, _ => rfl
  | _ + 12, _ => rfl
/-- What enter gives. -/
def EnterP (w : World) (Kb b mb : Nat) (MA : Option Addr) (mc n : Nat) (f : Int → Int) (h : Int → Bool) (x : Rs) (ep : Int) (bs : List UInt8) (e : Ending) (w' : World) : Prop :=
  ∃ A4 c4 L l A' c', e = .returned (.slice A4 (erB ((x.lg.length : Int) + 1) ep bs).length c4) ∧ Rl w' Kb b mb MA mc L l n f h { x with lg := x.lg ++ [(ep, bs, A', c')] } ∧ Below Kb w w'
set_option maxRecDepth 100000 in
set_option maxHeartbeats 1600000 in
theorem enter_any {w : World} {Kb b mb : Nat} {MA LA : Option Addr} {mc lc n : Nat} {f : Int → Int} {h : Int → Bool} {x : Rs} (H : Rl w Kb b mb MA mc LA lc n f h x) (hK0 : Kb ≤ w.heap.size) (hln0 : x.lg.length ≤ 1048576) (ep : Int) (hep0 : I64 ep) (K0 : Nat) (A : Option Addr) (m cap : Nat) (bs : List UInt8) (hn : bs.length = m) (hs : Bs w K0 A cap bs) (hKs : K0 ≤ w.heap.size) (hlb0 : bs.length ≤ 1048576)
    (hla : 0 < bs.length → ∀ ad : Addr, A = some ad → ad.block ≠ b ∧ ∀ g, (Value.slice LA x.lg.length lc).ownBlock = some g → g ≠ ad.block) :
    Calls Try.prog 81 #[.pointer (some ⟨b, 0, none⟩), .agg #[.int .i64 ep, .slice A m cap]] w (EnterP w Kb b mb MA mc n f h x ep bs) := by
  subst hn
  have hlb : Hid (bs.length ≤ 140737488355328) := Lib.hid (by omega)
  have hln := Lib.hid hln0
  obtain ⟨W0, hW0⟩ : ∃ W0, W0 = w.alloc (.cells #[.int .i64 ep, .slice A bs.length cap] 102) := ⟨_, rfl⟩
  have hb0 : Below w.heap.size w W0 := by rw [hW0]; exact (Below.refl _ _).alloc (Nat.le_refl _) _
  have hkb : Hid (Kb ≤ W0.heap.size) := Lib.hid (Nat.le_trans hK0 hb0.size)
  have hk0 : Hid (K0 ≤ W0.heap.size) := Lib.hid (Nat.le_trans hKs hb0.size)
  have HR0 := H.below hb0
  have HG0 : Hid (Ge W0 false W0 Kb b mb MA mc LA lc n f h x w.heap.size ep bs A cap K0) := Lib.hid ⟨Nat.le_refl _, Below.refl _ _, HR0.bx, HR0.ms, HR0.mp, by rw [hW0]; exact Bxo.new _ _ _, hs.below (hb0.mono hKs), fun g e => (HR0.lg.lt g e).2, fun g e => by have := (H.lg.lt g e).2; omega, fun h0 ad e => (hla h0 ad e).2, hkb.out, hk0.out, H.kb, H.km, fun _ => HR0.lg⟩
  have HAB : Hid (0 < bs.length → ∀ ad : Addr, A = some ad → ad.block ≠ b) := Lib.hid fun h0 ad e => (hla h0 ad e).1
  have HB0 := Lib.hid (hb0.mono hK0)
  have HWW := Lib.hid hW0
  obtain ⟨rl, hrl⟩ : ∃ rl, rl = (erB ((x.lg.length : Int) + 1) ep bs).length := ⟨_, rfl⟩
  have HRL9 := Lib.hid hrl
  have HER : Hid (∀ wx, Bs wx K0 A cap bs → K0 ≤ wx.heap.size → Calls Try.prog 121 #[.int .i64 ((x.lg.length : Int) + 1), .agg #[.int .i64 ep, .slice A bs.length cap]] wx fun e w' => ∃ A4 c4, e = .returned (.slice A4 rl c4) ∧ True ∧ Below wx.heap.size wx w') := Lib.hid fun wx h1 h2 => by
    refine (erecord_any ((x.lg.length : Int) + 1) ep (by unfold I64; omega) hep0 K0 A bs.length cap bs wx rfl h1 h2 hlb0).mono ?_
    rintro e w' ⟨A4, c4, e1, _, hb⟩
    exact ⟨A4, c4, by rw [hrl]; exact e1, trivial, hb⟩
  clear H hs hla hb0 hW0 HR0 hep0 hrl
  go_enter Try.func81, Try.ntmps81
  go_upto_region 1 with fail
  rw [← HWW.out]
  apply region_GS (HE8 ep bs Kb x.lg W0.heap.size) (fun fl wx => Ge W0 fl wx Kb b mb MA mc LA lc n f h x w.heap.size ep bs A cap K0) (fun wx => EntD W0 wx Kb b mb MA mc n f h x w.heap.size ep bs A cap K0) 8 11 [.v (.pointer (some ⟨b, 0, none⟩)), .v (.pointer (some ⟨b, 0, none⟩)), .v (.pointer (some ⟨b, 0, none⟩)), .v (.pointer (some ⟨b, 4, none⟩)), .v (.slice LA x.lg.length lc), .v (.agg #[.int .i64 ep, .slice A bs.length cap]), .cp, .li, .ap, .v (.pointer (some ⟨b, 0, none⟩)), .v (.pointer (some ⟨b, 4, none⟩)), .v undef] (.v undef)
  case hl => kernel_rfl
  case hm => kernel_rfl
  case hf => kernel_rfl
  case hp => kernel_rfl
  case hQ => exact (by intro c x y w e h; exact And.intro (e.symm.trans (And.left h)) (And.right h))
  case hF => intro vs; simp only [putAll, Act.put, List.setIfInBounds_toArray, List.set_cons_zero, List.set_cons_succ, Nat.reduceAdd]; rfl
  case h0 => exact HG0.out.below ⟨rfl, rfl, rfl, Nat.le_refl _, fun _ _ => rfl⟩
  case hstep =>
    repeat' (first | exact AllOps.nil | apply AllOps.cons)
    · intro vs yb wx hG hd hbp hbn K9 hK
      replace hK : ∀ (uu : Value) (w' : World), ((fun fl wx => Ge W0 fl wx Kb b mb MA mc LA lc n f h x w.heap.size ep bs A cap K0)) yb w' → (∀ j u, Nat.beq j 0 = false → (HE8 ep bs Kb x.lg W0.heap.size) (([.v (.pointer (some ⟨b, 0, none⟩)), .v (.pointer (some ⟨b, 0, none⟩)), .v (.pointer (some ⟨b, 0, none⟩)), .v (.pointer (some ⟨b, 4, none⟩)), .v (.slice LA x.lg.length lc), .v (.agg #[.int .i64 ep, .slice A bs.length cap]), .cp, .li, .ap, .v (.pointer (some ⟨b, 0, none⟩)), .v (.pointer (some ⟨b, 4, none⟩)), .v undef] : List _).getD j (.v undef)) u wx → (HE8 ep bs Kb x.lg W0.heap.size) (([.v (.pointer (some ⟨b, 0, none⟩)), .v (.pointer (some ⟨b, 0, none⟩)), .v (.pointer (some ⟨b, 0, none⟩)), .v (.pointer (some ⟨b, 4, none⟩)), .v (.slice LA x.lg.length lc), .v (.agg #[.int .i64 ep, .slice A bs.length cap]), .cp, .li, .ap, .v (.pointer (some ⟨b, 0, none⟩)), .v (.pointer (some ⟨b, 4, none⟩)), .v undef] : List _).getD j (.v undef)) u w') → (HE8 ep bs Kb x.lg W0.heap.size) (.v (.pointer (some ⟨b, 0, none⟩))) uu w' → K9 _ w' := hK
      simp only [Act.put, List.setIfInBounds_toArray, List.set_cons_zero, List.set_cons_succ] at hK ⊢
      have HK := Lib.hid hK
      have HG := Lib.hid hG
      clear hK hd
      clear hG hbp hbn
      go_simp
      exact HK.out _ _ HG.out (fun _ _ _ h9 => h9) rfl
    · intro vs yb wx hG hd hbp hbn K9 hK
      replace hK : ∀ (uu : Value) (w' : World), ((fun fl wx => Ge W0 fl wx Kb b mb MA mc LA lc n f h x w.heap.size ep bs A cap K0)) yb w' → (∀ j u, Nat.beq j 1 = false → (HE8 ep bs Kb x.lg W0.heap.size) (([.v (.pointer (some ⟨b, 0, none⟩)), .v (.pointer (some ⟨b, 0, none⟩)), .v (.pointer (some ⟨b, 0, none⟩)), .v (.pointer (some ⟨b, 4, none⟩)), .v (.slice LA x.lg.length lc), .v (.agg #[.int .i64 ep, .slice A bs.length cap]), .cp, .li, .ap, .v (.pointer (some ⟨b, 0, none⟩)), .v (.pointer (some ⟨b, 4, none⟩)), .v undef] : List _).getD j (.v undef)) u wx → (HE8 ep bs Kb x.lg W0.heap.size) (([.v (.pointer (some ⟨b, 0, none⟩)), .v (.pointer (some ⟨b, 0, none⟩)), .v (.pointer (some ⟨b, 0, none⟩)), .v (.pointer (some ⟨b, 4, none⟩)), .v (.slice LA x.lg.length lc), .v (.agg #[.int .i64 ep, .slice A bs.length cap]), .cp, .li, .ap, .v (.pointer (some ⟨b, 0, none⟩)), .v (.pointer (some ⟨b, 4, none⟩)), .v undef] : List _).getD j (.v undef)) u w') → (HE8 ep bs Kb x.lg W0.heap.size) (.v (.pointer (some ⟨b, 0, none⟩))) uu w' → K9 _ w' := hK
      simp only [Act.put, List.setIfInBounds_toArray, List.set_cons_zero, List.set_cons_succ] at hK ⊢
      have HK := Lib.hid hK
      have HG := Lib.hid hG
      clear hK hd
      clear hG hbp hbn
      go_simp
      exact HK.out _ _ HG.out (fun _ _ _ h9 => h9) rfl
    · intro vs yb wx hG hd hbp hbn K9 hK
      have e1 : vs 1 = .pointer (some ⟨b, 0, none⟩) := hd.get (j := 1) (by simp [depsOf, Region.binds])
      replace hK : ∀ (uu : Value) (w' : World), ((fun fl wx => Ge W0 fl wx Kb b mb MA mc LA lc n f h x w.heap.size ep bs A cap K0)) yb w' → (∀ j u, Nat.beq j 2 = false → (HE8 ep bs Kb x.lg W0.heap.size) (([.v (.pointer (some ⟨b, 0, none⟩)), .v (.pointer (some ⟨b, 0, none⟩)), .v (.pointer (some ⟨b, 0, none⟩)), .v (.pointer (some ⟨b, 4, none⟩)), .v (.slice LA x.lg.length lc), .v (.agg #[.int .i64 ep, .slice A bs.length cap]), .cp, .li, .ap, .v (.pointer (some ⟨b, 0, none⟩)), .v (.pointer (some ⟨b, 4, none⟩)), .v undef] : List _).getD j (.v undef)) u wx → (HE8 ep bs Kb x.lg W0.heap.size) (([.v (.pointer (some ⟨b, 0, none⟩)), .v (.pointer (some ⟨b, 0, none⟩)), .v (.pointer (some ⟨b, 0, none⟩)), .v (.pointer (some ⟨b, 4, none⟩)), .v (.slice LA x.lg.length lc), .v (.agg #[.int .i64 ep, .slice A bs.length cap]), .cp, .li, .ap, .v (.pointer (some ⟨b, 0, none⟩)), .v (.pointer (some ⟨b, 4, none⟩)), .v undef] : List _).getD j (.v undef)) u w') → (HE8 ep bs Kb x.lg W0.heap.size) (.v (.pointer (some ⟨b, 0, none⟩))) uu w' → K9 _ w' := hK
      simp only [Act.put, List.setIfInBounds_toArray, List.set_cons_zero, List.set_cons_succ, e1] at hK ⊢
      have HK := Lib.hid hK
      have HG := Lib.hid hG
      clear hK hd e1
      clear hG hbp hbn
      go_simp
      exact HK.out _ _ HG.out (fun _ _ _ h9 => h9) rfl
    · intro vs yb wx hG hd hbp hbn K9 hK
      have e2 : vs 2 = .pointer (some ⟨b, 0, none⟩) := hd.get (j := 2) (by simp [depsOf, Region.binds])
      replace hK : ∀ (uu : Value) (w' : World), ((fun fl wx => Ge W0 fl wx Kb b mb MA mc LA lc n f h x w.heap.size ep bs A cap K0)) yb w' → (∀ j u, Nat.beq j 3 = false → (HE8 ep bs Kb x.lg W0.heap.size) (([.v (.pointer (some ⟨b, 0, none⟩)), .v (.pointer (some ⟨b, 0, none⟩)), .v (.pointer (some ⟨b, 0, none⟩)), .v (.pointer (some ⟨b, 4, none⟩)), .v (.slice LA x.lg.length lc), .v (.agg #[.int .i64 ep, .slice A bs.length cap]), .cp, .li, .ap, .v (.pointer (some ⟨b, 0, none⟩)), .v (.pointer (some ⟨b, 4, none⟩)), .v undef] : List _).getD j (.v undef)) u wx → (HE8 ep bs Kb x.lg W0.heap.size) (([.v (.pointer (some ⟨b, 0, none⟩)), .v (.pointer (some ⟨b, 0, none⟩)), .v (.pointer (some ⟨b, 0, none⟩)), .v (.pointer (some ⟨b, 4, none⟩)), .v (.slice LA x.lg.length lc), .v (.agg #[.int .i64 ep, .slice A bs.length cap]), .cp, .li, .ap, .v (.pointer (some ⟨b, 0, none⟩)), .v (.pointer (some ⟨b, 4, none⟩)), .v undef] : List _).getD j (.v undef)) u w') → (HE8 ep bs Kb x.lg W0.heap.size) (.v (.pointer (some ⟨b, 4, none⟩))) uu w' → K9 _ w' := hK
      simp only [Act.put, List.setIfInBounds_toArray, List.set_cons_zero, List.set_cons_succ, e2] at hK ⊢
      have HK := Lib.hid hK
      have HG := Lib.hid hG
      clear hK hd e2
      clear hG hbp hbn
      go_simp
      exact HK.out _ _ HG.out (fun _ _ _ h9 => h9) rfl
    · intro vs yb wx hG hd hbp hbn K9 hK
      have e3 : vs 3 = .pointer (some ⟨b, 4, none⟩) := hd.get (j := 3) (by simp [depsOf, Region.binds])
      replace hK : ∀ (uu : Value) (w' : World), ((fun fl wx => Ge W0 fl wx Kb b mb MA mc LA lc n f h x w.heap.size ep bs A cap K0)) yb w' → (∀ j u, Nat.beq j 4 = false → (HE8 ep bs Kb x.lg W0.heap.size) (([.v (.pointer (some ⟨b, 0, none⟩)), .v (.pointer (some ⟨b, 0, none⟩)), .v (.pointer (some ⟨b, 0, none⟩)), .v (.pointer (some ⟨b, 4, none⟩)), .v (.slice LA x.lg.length lc), .v (.agg #[.int .i64 ep, .slice A bs.length cap]), .cp, .li, .ap, .v (.pointer (some ⟨b, 0, none⟩)), .v (.pointer (some ⟨b, 4, none⟩)), .v undef] : List _).getD j (.v undef)) u wx → (HE8 ep bs Kb x.lg W0.heap.size) (([.v (.pointer (some ⟨b, 0, none⟩)), .v (.pointer (some ⟨b, 0, none⟩)), .v (.pointer (some ⟨b, 0, none⟩)), .v (.pointer (some ⟨b, 4, none⟩)), .v (.slice LA x.lg.length lc), .v (.agg #[.int .i64 ep, .slice A bs.length cap]), .cp, .li, .ap, .v (.pointer (some ⟨b, 0, none⟩)), .v (.pointer (some ⟨b, 4, none⟩)), .v undef] : List _).getD j (.v undef)) u w') → (HE8 ep bs Kb x.lg W0.heap.size) (.v (.slice LA x.lg.length lc)) uu w' → K9 _ w' := hK
      simp only [Act.put, List.setIfInBounds_toArray, List.set_cons_zero, List.set_cons_succ, e3] at hK ⊢
      have HK := Lib.hid hK
      have HG := Lib.hid hG
      clear hK hd e3
      have y4 : wx.cell? ⟨b, 4, none⟩ = some (.slice LA x.lg.length lc) := HG.out.bx.cell rfl
      have yl := HG.out.bx.lt
      have x0 : wx.cell? ⟨w.heap.size, 0, none⟩ = some (.int .i64 ep) := HG.out.xb.cell rfl
      have x1 : wx.cell? ⟨w.heap.size, 1, none⟩ = some (.slice A bs.length cap) := HG.out.xb.cell rfl
      have xl := HG.out.xb.lt
      clear hG hbp hbn
      go_simp
      exact HK.out _ _ HG.out (fun _ _ _ h9 => h9) rfl
    · intro vs yb wx hG hd hbp hbn K9 hK
      replace hK : ∀ (uu : Value) (w' : World), ((fun fl wx => Ge W0 fl wx Kb b mb MA mc LA lc n f h x w.heap.size ep bs A cap K0)) yb w' → (∀ j u, Nat.beq j 5 = false → (HE8 ep bs Kb x.lg W0.heap.size) (([.v (.pointer (some ⟨b, 0, none⟩)), .v (.pointer (some ⟨b, 0, none⟩)), .v (.pointer (some ⟨b, 0, none⟩)), .v (.pointer (some ⟨b, 4, none⟩)), .v (.slice LA x.lg.length lc), .v (.agg #[.int .i64 ep, .slice A bs.length cap]), .cp, .li, .ap, .v (.pointer (some ⟨b, 0, none⟩)), .v (.pointer (some ⟨b, 4, none⟩)), .v undef] : List _).getD j (.v undef)) u wx → (HE8 ep bs Kb x.lg W0.heap.size) (([.v (.pointer (some ⟨b, 0, none⟩)), .v (.pointer (some ⟨b, 0, none⟩)), .v (.pointer (some ⟨b, 0, none⟩)), .v (.pointer (some ⟨b, 4, none⟩)), .v (.slice LA x.lg.length lc), .v (.agg #[.int .i64 ep, .slice A bs.length cap]), .cp, .li, .ap, .v (.pointer (some ⟨b, 0, none⟩)), .v (.pointer (some ⟨b, 4, none⟩)), .v undef] : List _).getD j (.v undef)) u w') → (HE8 ep bs Kb x.lg W0.heap.size) (.v (.agg #[.int .i64 ep, .slice A bs.length cap])) uu w' → K9 _ w' := hK
      simp only [Act.put, List.setIfInBounds_toArray, List.set_cons_zero, List.set_cons_succ] at hK ⊢
      have HK := Lib.hid hK
      have HG := Lib.hid hG
      clear hK hd
      have y4 : wx.cell? ⟨b, 4, none⟩ = some (.slice LA x.lg.length lc) := HG.out.bx.cell rfl
      have yl := HG.out.bx.lt
      have x0 : wx.cell? ⟨w.heap.size, 0, none⟩ = some (.int .i64 ep) := HG.out.xb.cell rfl
      have x1 : wx.cell? ⟨w.heap.size, 1, none⟩ = some (.slice A bs.length cap) := HG.out.xb.cell rfl
      have xl := HG.out.xb.lt
      clear hG hbp hbn
      go_simp
      exact HK.out _ _ HG.out (fun _ _ _ h9 => h9) rfl
    · intro vs yb wx hG hd hbp hbn K9 hK
      have e5 : vs 5 = .agg #[.int .i64 ep, .slice A bs.length cap] := hd.get (j := 5) (by simp [depsOf, Region.binds])
      replace hK : ∀ (uu : Value) (w' : World), ((fun fl wx => Ge W0 fl wx Kb b mb MA mc LA lc n f h x w.heap.size ep bs A cap K0)) yb w' → (∀ j u, Nat.beq j 6 = false → (HE8 ep bs Kb x.lg W0.heap.size) (([.v (.pointer (some ⟨b, 0, none⟩)), .v (.pointer (some ⟨b, 0, none⟩)), .v (.pointer (some ⟨b, 0, none⟩)), .v (.pointer (some ⟨b, 4, none⟩)), .v (.slice LA x.lg.length lc), .v (.agg #[.int .i64 ep, .slice A bs.length cap]), .cp, .li, .ap, .v (.pointer (some ⟨b, 0, none⟩)), .v (.pointer (some ⟨b, 4, none⟩)), .v undef] : List _).getD j (.v undef)) u wx → (HE8 ep bs Kb x.lg W0.heap.size) (([.v (.pointer (some ⟨b, 0, none⟩)), .v (.pointer (some ⟨b, 0, none⟩)), .v (.pointer (some ⟨b, 0, none⟩)), .v (.pointer (some ⟨b, 4, none⟩)), .v (.slice LA x.lg.length lc), .v (.agg #[.int .i64 ep, .slice A bs.length cap]), .cp, .li, .ap, .v (.pointer (some ⟨b, 0, none⟩)), .v (.pointer (some ⟨b, 4, none⟩)), .v undef] : List _).getD j (.v undef)) u w') → (HE8 ep bs Kb x.lg W0.heap.size) (.cp) uu w' → K9 _ w' := hK
      simp only [Act.put, List.setIfInBounds_toArray, List.set_cons_zero, List.set_cons_succ, e5] at hK ⊢
      have HK := Lib.hid hK
      have HG := Lib.hid hG
      clear hK hd e5
      have HS := Lib.hid (HG.out.sz)
      have HBS := Lib.hid (HG.out.cm)
      clear hG
      go_simp
      go_at_call 102
      refine (centry_any ep K0 A bs.length cap bs wx rfl HBS.out (Nat.le_trans hk0.out HS.out) hlb.out).mono ?_
      rintro en w9 ⟨A9, c9, rfl, _, hb⟩
      exact HK.out _ _ (HG.out.below hb) (fun j u _ h9 => HE8.mono h9 hb) ⟨A9, c9, rfl⟩
    · intro vs yb wx hG hd hbp hbn K9 hK
      obtain ⟨A6, d6, e6⟩ : ∃ (A' : Option Addr) (c' : Nat), vs 6 = .agg #[.int .i64 ep, .slice A' bs.length c'] := hd.get (j := 6) (by simp [depsOf, Region.binds])
      replace hK : ∀ (uu : Value) (w' : World), ((fun fl wx => Ge W0 fl wx Kb b mb MA mc LA lc n f h x w.heap.size ep bs A cap K0)) yb w' → (∀ j u, Nat.beq j 7 = false → (HE8 ep bs Kb x.lg W0.heap.size) (([.v (.pointer (some ⟨b, 0, none⟩)), .v (.pointer (some ⟨b, 0, none⟩)), .v (.pointer (some ⟨b, 0, none⟩)), .v (.pointer (some ⟨b, 4, none⟩)), .v (.slice LA x.lg.length lc), .v (.agg #[.int .i64 ep, .slice A bs.length cap]), .cp, .li, .ap, .v (.pointer (some ⟨b, 0, none⟩)), .v (.pointer (some ⟨b, 4, none⟩)), .v undef] : List _).getD j (.v undef)) u wx → (HE8 ep bs Kb x.lg W0.heap.size) (([.v (.pointer (some ⟨b, 0, none⟩)), .v (.pointer (some ⟨b, 0, none⟩)), .v (.pointer (some ⟨b, 0, none⟩)), .v (.pointer (some ⟨b, 4, none⟩)), .v (.slice LA x.lg.length lc), .v (.agg #[.int .i64 ep, .slice A bs.length cap]), .cp, .li, .ap, .v (.pointer (some ⟨b, 0, none⟩)), .v (.pointer (some ⟨b, 4, none⟩)), .v undef] : List _).getD j (.v undef)) u w') → (HE8 ep bs Kb x.lg W0.heap.size) (.li) uu w' → K9 _ w' := hK
      simp only [Act.put, List.setIfInBounds_toArray, List.set_cons_zero, List.set_cons_succ, e6] at hK ⊢
      have HK := Lib.hid hK
      have HG := Lib.hid hG
      clear hK hd e6
      have HS := Lib.hid (HG.out.sz)
      clear hG
      go_simp
      have hb : Below wx.heap.size wx (wx.alloc (.cells #[.int .i64 ep, .slice A6 bs.length d6] 102)) := (Below.refl _ _).alloc (Nat.le_refl _) _
      exact HK.out _ _ (HG.out.below hb) (fun j u _ h9 => HE8.mono h9 hb) ⟨wx.heap.size, A6, d6, rfl, HS.out, heap_alloc_new wx _⟩
    · intro vs yb wx hG hd hbp hbn K9 hK
      have e4 : vs 4 = .slice LA x.lg.length lc := hd.get (j := 4) (by simp [depsOf, Region.binds])
      obtain ⟨g7, A7, d7, e7, f7, h7⟩ : ∃ (g : Nat) (A' : Option Addr) (c' : Nat), vs 7 = .slice (some ⟨g, 0, none⟩) 1 1 ∧ W0.heap.size ≤ g ∧ wx.heap[g]? = some (.cells #[.int .i64 ep, .slice A' bs.length c'] 102) := hd.get (j := 7) (by simp [depsOf, Region.binds])
      replace hK : ∀ (uu : Value) (w' : World), ((fun fl wx => Ge W0 fl wx Kb b mb MA mc LA lc n f h x w.heap.size ep bs A cap K0)) true w' → (∀ j u, Nat.beq j 8 = false → (HE8 ep bs Kb x.lg W0.heap.size) (([.v (.pointer (some ⟨b, 0, none⟩)), .v (.pointer (some ⟨b, 0, none⟩)), .v (.pointer (some ⟨b, 0, none⟩)), .v (.pointer (some ⟨b, 4, none⟩)), .v (.slice LA x.lg.length lc), .v (.agg #[.int .i64 ep, .slice A bs.length cap]), .cp, .li, .ap, .v (.pointer (some ⟨b, 0, none⟩)), .v (.pointer (some ⟨b, 4, none⟩)), .v undef] : List _).getD j (.v undef)) u wx → (HE8 ep bs Kb x.lg W0.heap.size) (([.v (.pointer (some ⟨b, 0, none⟩)), .v (.pointer (some ⟨b, 0, none⟩)), .v (.pointer (some ⟨b, 0, none⟩)), .v (.pointer (some ⟨b, 4, none⟩)), .v (.slice LA x.lg.length lc), .v (.agg #[.int .i64 ep, .slice A bs.length cap]), .cp, .li, .ap, .v (.pointer (some ⟨b, 0, none⟩)), .v (.pointer (some ⟨b, 4, none⟩)), .v undef] : List _).getD j (.v undef)) u w') → (HE8 ep bs Kb x.lg W0.heap.size) (.ap) uu w' → K9 _ w' := hK
      simp only [Act.put, List.setIfInBounds_toArray, List.set_cons_zero, List.set_cons_succ, e4, e7] at hK ⊢
      have HK := Lib.hid hK
      have HG := Lib.hid hG
      clear hK hd e4 e7
      have hyb : yb = false := hbp rfl
      subst hyb
      have hlg := HG.out.lg rfl
      have hsz := HG.out.sz
      have hsr : Sr encEz 2 wx wx.heap.size (some ⟨g7, 0, none⟩) 1 [((ep, bs, A7, d7) : Ez)] := bx_lit ⟨h7⟩ rfl (Array.getElem?_eq_some_iff.1 h7).1
      have hkw : Kb ≤ wx.heap.size := Nat.le_trans hkb.out hsz
      clear hG
      apply step_appE Try.underlying44 info_ent rfl (by decide) encEz_len encEz_one (K := Kb) (v := .slice LA x.lg.length lc) (l := x.lg) (A := some ⟨g7, 0, none⟩) (cap := 1) (m := [((ep, bs, A7, d7) : Ez)]) (K' := wx.heap.size) (s := .tmp 9) (x := .tmp 12)
      case hgd => rfl
      case ho => rfl
      case hs => rfl
      case hx => rfl
      case hown => exact hlg
      case hsrc => exact hsr
      case hm => unfold maxLen; have := hln.out; simp only [List.length_singleton]; omega
      case hsz => have := hln.out; simp only [List.length_singleton]; omega
      case hbase => exact hkw
      intro A5 c5 w5 so5 hg5
      have so6 : So encEz 2 w5 Kb 102 (.slice A5 (x.lg.length + 1) c5) (x.lg ++ [((ep, bs, A7, d7) : Ez)]) := so5
      have hlt9 : ∀ g, (Value.slice LA x.lg.length lc).ownBlock = some g → g < W0.heap.size := HG.out.lt
      simp only [Act.put, List.setIfInBounds_toArray, List.set_cons_zero, List.set_cons_succ]
      exact HK.out _ _ (HG.out.app hlg hg5) (fun j u hj h9 => HE8.grown (ent_ne j hj) h9 hg5 hlt9) ⟨A5, c5, A7, d7, rfl, so6⟩
    · intro vs yb wx hG hd hbp hbn K9 hK
      have e0 : vs 0 = .pointer (some ⟨b, 0, none⟩) := hd.get (j := 0) (by simp [depsOf, Region.binds])
      replace hK : ∀ (uu : Value) (w' : World), ((fun fl wx => Ge W0 fl wx Kb b mb MA mc LA lc n f h x w.heap.size ep bs A cap K0)) yb w' → (∀ j u, Nat.beq j 9 = false → (HE8 ep bs Kb x.lg W0.heap.size) (([.v (.pointer (some ⟨b, 0, none⟩)), .v (.pointer (some ⟨b, 0, none⟩)), .v (.pointer (some ⟨b, 0, none⟩)), .v (.pointer (some ⟨b, 4, none⟩)), .v (.slice LA x.lg.length lc), .v (.agg #[.int .i64 ep, .slice A bs.length cap]), .cp, .li, .ap, .v (.pointer (some ⟨b, 0, none⟩)), .v (.pointer (some ⟨b, 4, none⟩)), .v undef] : List _).getD j (.v undef)) u wx → (HE8 ep bs Kb x.lg W0.heap.size) (([.v (.pointer (some ⟨b, 0, none⟩)), .v (.pointer (some ⟨b, 0, none⟩)), .v (.pointer (some ⟨b, 0, none⟩)), .v (.pointer (some ⟨b, 4, none⟩)), .v (.slice LA x.lg.length lc), .v (.agg #[.int .i64 ep, .slice A bs.length cap]), .cp, .li, .ap, .v (.pointer (some ⟨b, 0, none⟩)), .v (.pointer (some ⟨b, 4, none⟩)), .v undef] : List _).getD j (.v undef)) u w') → (HE8 ep bs Kb x.lg W0.heap.size) (.v (.pointer (some ⟨b, 0, none⟩))) uu w' → K9 _ w' := hK
      simp only [Act.put, List.setIfInBounds_toArray, List.set_cons_zero, List.set_cons_succ, e0] at hK ⊢
      have HK := Lib.hid hK
      have HG := Lib.hid hG
      clear hK hd e0
      clear hG hbp hbn
      go_simp
      exact HK.out _ _ HG.out (fun _ _ _ h9 => h9) rfl
    · intro vs yb wx hG hd hbp hbn K9 hK
      have e9 : vs 9 = .pointer (some ⟨b, 0, none⟩) := hd.get (j := 9) (by simp [depsOf, Region.binds])
      replace hK : ∀ (uu : Value) (w' : World), ((fun fl wx => Ge W0 fl wx Kb b mb MA mc LA lc n f h x w.heap.size ep bs A cap K0)) yb w' → (∀ j u, Nat.beq j 10 = false → (HE8 ep bs Kb x.lg W0.heap.size) (([.v (.pointer (some ⟨b, 0, none⟩)), .v (.pointer (some ⟨b, 0, none⟩)), .v (.pointer (some ⟨b, 0, none⟩)), .v (.pointer (some ⟨b, 4, none⟩)), .v (.slice LA x.lg.length lc), .v (.agg #[.int .i64 ep, .slice A bs.length cap]), .cp, .li, .ap, .v (.pointer (some ⟨b, 0, none⟩)), .v (.pointer (some ⟨b, 4, none⟩)), .v undef] : List _).getD j (.v undef)) u wx → (HE8 ep bs Kb x.lg W0.heap.size) (([.v (.pointer (some ⟨b, 0, none⟩)), .v (.pointer (some ⟨b, 0, none⟩)), .v (.pointer (some ⟨b, 0, none⟩)), .v (.pointer (some ⟨b, 4, none⟩)), .v (.slice LA x.lg.length lc), .v (.agg #[.int .i64 ep, .slice A bs.length cap]), .cp, .li, .ap, .v (.pointer (some ⟨b, 0, none⟩)), .v (.pointer (some ⟨b, 4, none⟩)), .v undef] : List _).getD j (.v undef)) u w') → (HE8 ep bs Kb x.lg W0.heap.size) (.v (.pointer (some ⟨b, 4, none⟩))) uu w' → K9 _ w' := hK
      simp only [Act.put, List.setIfInBounds_toArray, List.set_cons_zero, List.set_cons_succ, e9] at hK ⊢
      have HK := Lib.hid hK
      have HG := Lib.hid hG
      clear hK hd e9
      clear hG hbp hbn
      go_simp
      exact HK.out _ _ HG.out (fun _ _ _ h9 => h9) rfl
    · intro vs yb wx hG hd hbp hbn K9 hK
      obtain ⟨L8, l8, A8, d8, e8, r8⟩ : ∃ (L' : Option Addr) (l' : Nat) (A' : Option Addr) (c' : Nat), vs 8 = .slice L' (x.lg.length + 1) l' ∧ So encEz 2 wx Kb 102 (.slice L' (x.lg.length + 1) l') (x.lg ++ [(ep, bs, A', c')]) := hd.get (j := 8) (by simp [depsOf, Region.binds])
      have e10 : vs 10 = .pointer (some ⟨b, 4, none⟩) := hd.get (j := 10) (by simp [depsOf, Region.binds])
      replace hK : ∀ (uu : Value) (w' : World), ((fun wx => EntD W0 wx Kb b mb MA mc n f h x w.heap.size ep bs A cap K0)) w' → K9 _ w' := hK
      simp only [Act.put, e8, e10] at hK ⊢
      have HK := Lib.hid hK
      have HG := Lib.hid hG
      clear hK hd e8 e10
      have hbx := HG.out.bx
      have q0 : wx.cell? ⟨b, 4, none⟩ = some (.slice LA x.lg.length lc) := hbx.cell rfl
      have qf := hbx.fr 4
      have ql := hbx.lt
      have HF := Lib.hid ((HG.out.fin r8).resolve_right (fun h9 => h9 HAB.out))
      clear hG hbx
      go_simp
      exact HK.out undef _ ⟨L8, l8, A8, d8, HF.out⟩
  case hend =>
    intro vs W9 hE
    obtain ⟨L9, l9, A9, d9, hr9, hb9, hx9, hbs9⟩ := hE
    have HR9 := Lib.hid hr9
    have HB9 := Lib.hid hb9
    have HX9 := Lib.hid hx9
    have hW9 : Hid (W0.heap.size ≤ W9.heap.size) := Lib.hid hb9.size
    have HBS9 : Hid (∀ wx, Below W9.heap.size W9 wx → Bs wx K0 A cap bs) := Lib.hid fun wx h => hbs9.below (h.mono (Nat.le_trans hk0.out hb9.size))
    clear hr9 hb9 hx9 hbs9
    go_upto_region 2 with fail
    apply region_V (fun (p : Ve8) u (_ : World) => HF8 rl p u) (fun wx => Below W9.heap.size W9 wx) [.v (.pointer (some ⟨b, 0, none⟩)), .v (.pointer (some ⟨b, 0, none⟩)), .v (.pointer (some ⟨b, 4, none⟩)), .v (.slice L9 (x.lg.length + 1) l9), .v (.int .i64 ((x.lg.length : Int) + 1)), .v (.agg #[.int .i64 ep, .slice A bs.length cap]), .rd, .rd] (.v undef)
    case mono => exact fun p v w0 w1 h hb => h
    case hm => kernel_rfl
    case hf => kernel_rfl
    case hQ => exact (by intro c x y w e h; exact And.intro (e.symm.trans (And.left h)) (And.right h))
    case hF => intro vs; simp only [putAll, Act.put, List.setIfInBounds_toArray, List.set_cons_zero, List.set_cons_succ, Nat.reduceAdd]; rfl
    case h0 => exact ⟨rfl, rfl, rfl, Nat.le_refl _, fun _ _ => rfl⟩
    case hstep =>
      repeat' (first | exact AllOps.nil | apply AllOps.cons)
      · intro vs wx hG hd K hK
        replace hK : ∀ (uu : Value) (w' : World), Below wx.heap.size wx w' → ((fun wx => Below W9.heap.size W9 wx)) w' → (fun (p : Ve8) u (_ : World) => HF8 rl p u) (.v (.pointer (some ⟨b, 0, none⟩))) uu w' → K _ w' := hK
        simp only [Act.put, List.setIfInBounds_toArray, List.set_cons_zero, List.set_cons_succ] at hK ⊢
        have HK := Lib.hid hK
        have HG := Lib.hid hG
        clear hK hd
        clear hG
        go_simp
        exact HK.out _ _ (Below.refl _ _) HG.out rfl
      · intro vs wx hG hd K hK
        have e0 : vs 0 = .pointer (some ⟨b, 0, none⟩) := hd.get (j := 0) (by simp [depsOf, Region.binds])
        replace hK : ∀ (uu : Value) (w' : World), Below wx.heap.size wx w' → ((fun wx => Below W9.heap.size W9 wx)) w' → (fun (p : Ve8) u (_ : World) => HF8 rl p u) (.v (.pointer (some ⟨b, 0, none⟩))) uu w' → K _ w' := hK
        simp only [Act.put, List.setIfInBounds_toArray, List.set_cons_zero, List.set_cons_succ, e0] at hK ⊢
        have HK := Lib.hid hK
        have HG := Lib.hid hG
        clear hK hd e0
        clear hG
        go_simp
        exact HK.out _ _ (Below.refl _ _) HG.out rfl
      · intro vs wx hG hd K hK
        have e1 : vs 1 = .pointer (some ⟨b, 0, none⟩) := hd.get (j := 1) (by simp [depsOf, Region.binds])
        replace hK : ∀ (uu : Value) (w' : World), Below wx.heap.size wx w' → ((fun wx => Below W9.heap.size W9 wx)) w' → (fun (p : Ve8) u (_ : World) => HF8 rl p u) (.v (.pointer (some ⟨b, 4, none⟩))) uu w' → K _ w' := hK
        simp only [Act.put, List.setIfInBounds_toArray, List.set_cons_zero, List.set_cons_succ, e1] at hK ⊢
        have HK := Lib.hid hK
        have HG := Lib.hid hG
        clear hK hd e1
        clear hG
        go_simp
        exact HK.out _ _ (Below.refl _ _) HG.out rfl
      · intro vs wx hG hd K hK
        have e2 : vs 2 = .pointer (some ⟨b, 4, none⟩) := hd.get (j := 2) (by simp [depsOf, Region.binds])
        replace hK : ∀ (uu : Value) (w' : World), Below wx.heap.size wx w' → ((fun wx => Below W9.heap.size W9 wx)) w' → (fun (p : Ve8) u (_ : World) => HF8 rl p u) (.v (.slice L9 (x.lg.length + 1) l9)) uu w' → K _ w' := hK
        simp only [Act.put, List.setIfInBounds_toArray, List.set_cons_zero, List.set_cons_succ, e2] at hK ⊢
        have HK := Lib.hid hK
        have HG := Lib.hid hG
        clear hK hd e2
        have hb1 := HG.out
        have y4 : wx.cell? ⟨b, 4, none⟩ = some (.slice L9 (x.lg.length + 1) l9) := (HR9.out.bx.below hb1).cell (by simp)
        have yl := (HR9.out.bx.below hb1).lt
        have x0 : wx.cell? ⟨w.heap.size, 0, none⟩ = some (.int .i64 ep) := (HX9.out.below hb1).cell rfl
        have x1 : wx.cell? ⟨w.heap.size, 1, none⟩ = some (.slice A bs.length cap) := (HX9.out.below hb1).cell rfl
        have xl := (HX9.out.below hb1).lt
        clear hb1 hG
        go_simp
        exact HK.out _ _ (Below.refl _ _) HG.out rfl
      · intro vs wx hG hd K hK
        have e3 : vs 3 = .slice L9 (x.lg.length + 1) l9 := hd.get (j := 3) (by simp [depsOf, Region.binds])
        replace hK : ∀ (uu : Value) (w' : World), Below wx.heap.size wx w' → ((fun wx => Below W9.heap.size W9 wx)) w' → (fun (p : Ve8) u (_ : World) => HF8 rl p u) (.v (.int .i64 ((x.lg.length : Int) + 1))) uu w' → K _ w' := hK
        simp only [Act.put, List.setIfInBounds_toArray, List.set_cons_zero, List.set_cons_succ, e3] at hK ⊢
        have HK := Lib.hid hK
        have HG := Lib.hid hG
        clear hK hd e3
        clear hG
        go_simp
        exact HK.out _ _ (Below.refl _ _) HG.out rfl
      · intro vs wx hG hd K hK
        replace hK : ∀ (uu : Value) (w' : World), Below wx.heap.size wx w' → ((fun wx => Below W9.heap.size W9 wx)) w' → (fun (p : Ve8) u (_ : World) => HF8 rl p u) (.v (.agg #[.int .i64 ep, .slice A bs.length cap])) uu w' → K _ w' := hK
        simp only [Act.put, List.setIfInBounds_toArray, List.set_cons_zero, List.set_cons_succ] at hK ⊢
        have HK := Lib.hid hK
        have HG := Lib.hid hG
        clear hK hd
        have hb1 := HG.out
        have y4 : wx.cell? ⟨b, 4, none⟩ = some (.slice L9 (x.lg.length + 1) l9) := (HR9.out.bx.below hb1).cell (by simp)
        have yl := (HR9.out.bx.below hb1).lt
        have x0 : wx.cell? ⟨w.heap.size, 0, none⟩ = some (.int .i64 ep) := (HX9.out.below hb1).cell rfl
        have x1 : wx.cell? ⟨w.heap.size, 1, none⟩ = some (.slice A bs.length cap) := (HX9.out.below hb1).cell rfl
        have xl := (HX9.out.below hb1).lt
        clear hb1 hG
        go_simp
        exact HK.out _ _ (Below.refl _ _) HG.out rfl
      · intro vs wx hG hd K hK
        have e4 : vs 4 = .int .i64 ((x.lg.length : Int) + 1) := hd.get (j := 4) (by simp [depsOf, Region.binds])
        have e5 : vs 5 = .agg #[.int .i64 ep, .slice A bs.length cap] := hd.get (j := 5) (by simp [depsOf, Region.binds])
        replace hK : ∀ (uu : Value) (w' : World), Below wx.heap.size wx w' → ((fun wx => Below W9.heap.size W9 wx)) w' → (fun (p : Ve8) u (_ : World) => HF8 rl p u) (.rd) uu w' → K _ w' := hK
        simp only [Act.put, List.setIfInBounds_toArray, List.set_cons_zero, List.set_cons_succ, e4, e5] at hK ⊢
        have HK := Lib.hid hK
        have HG := Lib.hid hG
        clear hK hd e4 e5
        have hb1 := HG.out
        have HBS := Lib.hid (HBS9.out wx hb1)
        clear hG
        go_simp
        go_at_call 121
        refine (HER.out wx HBS.out (Nat.le_trans (Nat.le_trans hk0.out hW9.out) hb1.size)).mono ?_
        rintro en w9 ⟨A9, c9, rfl, _, hb⟩
        exact HK.out _ _ hb (hb1.trans (hb.mono hb1.size)) ⟨A9, c9, rfl⟩
      · intro vs wx hG hd K hK
        obtain ⟨A6, d6, e6⟩ : ∃ (A' : Option Addr) (c' : Nat), vs 6 = .slice A' rl c' := hd.get (j := 6) (by simp [depsOf, Region.binds])
        replace hK : ∀ (uu : Value) (w' : World), Below wx.heap.size wx w' → ((fun wx => Below W9.heap.size W9 wx)) w' → (fun (p : Ve8) u (_ : World) => HF8 rl p u) (.rd) uu w' → K _ w' := hK
        simp only [Act.put, List.setIfInBounds_toArray, List.set_cons_zero, List.set_cons_succ, e6] at hK ⊢
        have HK := Lib.hid hK
        have HG := Lib.hid hG
        clear hK hd e6
        clear hG
        go_simp
        exact HK.out _ _ (Below.refl _ _) HG.out ⟨_, _, rfl⟩
    case hend =>
      intro vs2 wx hG hv
      obtain ⟨A7, c7, e7⟩ : ∃ (A' : Option Addr) (c' : Nat), vs2 7 = .slice A' rl c' := hv 7 (by decide)
      have HR := Lib.hid (HR9.out.below hG)
      have HB := Lib.hid (HB9.out.trans (hG.mono (Nat.le_trans hkb.out hW9.out)))
      clear hv hG
      simp only [e7]
      go_wp2_with fail
      go_ret
      exact ⟨A7, c7, L9, l9, A9, d9, by rw [HRL9.out]; rfl, HR.out, HB0.out.trans HB.out⟩
end Go.Proofs.Ytpnhdocimjkakaa
