/- An answer of the document's in memory of the call's own; an answer that is read; the law's Told. -/
import Derived.Test.YtcfbcidakddhfaaGreatDoorPr41
import Derived.Test.YtcfbcidakddhfaaGreatDoorPr42
import Derived.Test.YtcfbcidakddhfaaGreatDoorPr28
namespace Go.Proofs.YtcfbcidakddhfaaGreatDoor
open Go.RowKit Go.BigFrame

theorem info_drow : (Tryz.prog.info? 87).map (fun i => (i.zero, i.size, i.bytes)) = some (some (.agg #[.slice none 0 0, .slice none 0 0]), 2, 48) := by kernel_rfl
/-- Rows that are read: in blocks below K, their sets and cells too. -/
structure Rs9 (w : World) (K : Nat) (A : Option Addr) (cap : Nat) (l : List Rz) : Prop where
  sr : Sr encRz 2 w K A cap l
  st : ∀ r ∈ l, Lr w K r.2.1.1 r.2.1.2 r.1.1
  ce : ∀ r ∈ l, Sr encSm 2 w K r.2.2.1 r.2.2.2 r.1.2
theorem Rs9.below {w w' : World} {K cap : Nat} {A : Option Addr} {l : List Rz} (h : Rs9 w K A cap l) (hb : Below K w w') : Rs9 w' K A cap l := ⟨h.sr.below hb, fun p hp => (h.st p hp).below hb, fun p hp => (h.ce p hp).below hb⟩
theorem Rs9.more {w : World} {K K' cap : Nat} {A : Option Addr} {l : List Rz} (h : Rs9 w K A cap l) (hK : K ≤ K') : Rs9 w K' A cap l := ⟨h.sr.more hK, fun p hp => (h.st p hp).more hK, fun p hp => (h.ce p hp).more hK⟩
theorem Rg.rs {w : World} {K n cap : Nat} {A : Option Addr} {l : List Rz} (h : Rg w K (.slice A n cap) l) : Rs9 w w.heap.size A cap l ∧ l.length = n :=
  ⟨⟨(So.sr encRz_len h.so).1, fun p hp => (So.sr encP_len (h.st p hp)).1, fun p hp => (So.sr encSm_len (h.ce p hp)).1⟩, (So.sr encRz_len h.so).2⟩
/-- A row's two cells as the walk spells them. -/
theorem rs_cells {w : World} {K cap : Nat} {A : Option Addr} {l : List Rz} (h : Sr encRz 2 w K A cap l) {i : Nat} (hi : i < l.length) : ∃ ad : Addr, A = some ad ∧ ad.block < K ∧ w.cell? (ad.add (i * 2)) = some (.slice l[i].2.1.1 l[i].1.1.length l[i].2.1.2) ∧
    w.cell? ⟨(ad.add (i * 2)).block, (ad.add (i * 2)).off + 1, none⟩ = some (.slice l[i].2.2.1 l[i].1.2.length l[i].2.2.2) := by
  obtain ⟨ad, e, hb, h0, h1⟩ := h.get2 hi
  exact ⟨ad, e, hb, h0 _ rfl, h1 1 _ (by decide) rfl⟩
/-- v is a row of the call's own of rows, their sets and cells too. -/
structure Rh (w : World) (K : Nat) (v : Value) (l : List Rz) : Prop where
  so : So encRz 2 w K 87 v l
  st : ∀ r ∈ l, So encP 2 w K 92 (.slice r.2.1.1 r.1.1.length r.2.1.2) r.1.1
  ce : ∀ r ∈ l, So encSm 2 w K 83 (.slice r.2.2.1 r.1.2.length r.2.2.2) r.1.2
section
variable {w w' : World} {K K' : Nat} {v v' : Value} {l : List Rz}
theorem Rh.empty (w : World) (K : Nat) : Rh w K (.slice none 0 0) [] := ⟨So.empty _ _ _ _ _, (fun p hp => by cases hp), fun p hp => by cases hp⟩
theorem Rh.below (h : Rh w K v l) (hb : Below w.heap.size w w') : Rh w' K v l := ⟨h.so.below hb, fun p hp => (h.st p hp).below hb, fun p hp => (h.ce p hp).below hb⟩
theorem Rh.more (h : Rh w K v l) (hK : K' ≤ K) : Rh w K' v l := ⟨h.so.more hK, fun p hp => (h.st p hp).more hK, fun p hp => (h.ce p hp).more hK⟩
theorem Rh.keepO {β : Type} {e2 : β → List Value} {k2 K2 : Nat} {R : TypeId} {u : Value} {m : List β} (h : Rh w K v l) (g : So e2 k2 w K2 R u m) (h1 : 87 ≠ R) (h2 : 92 ≠ R) (h3 : 83 ≠ R) (hg : w.grownBy w' u.ownBlock) : Rh w' K v l :=
  ⟨h.so.keepO g h1 hg, fun p hp => (h.st p hp).keepO g h2 hg, fun p hp => (h.ce p hp).keepO g h3 hg⟩
theorem Rh.push (h : Rh w K v l) {r : Rz} (hs : So encP 2 w K 92 (.slice r.2.1.1 r.1.1.length r.2.1.2) r.1.1) (hc : So encSm 2 w K 83 (.slice r.2.2.1 r.1.2.length r.2.2.2) r.1.2)
    (hg : w.grownBy w' v.ownBlock) (hn : So encRz 2 w' K 87 v' (l ++ [r])) : Rh w' K v' (l ++ [r]) :=
  ⟨hn, fun q hq => by
    rcases List.mem_append.1 hq with h1 | h1
    · exact (h.st q h1).keepO h.so (by decide) hg
    · obtain rfl := List.mem_singleton.1 h1
      exact hs.keepO h.so (by decide) hg, fun q hq => by
    rcases List.mem_append.1 hq with h1 | h1
    · exact (h.ce q h1).keepO h.so (by decide) hg
    · obtain rfl := List.mem_singleton.1 h1
      exact hc.keepO h.so (by decide) hg⟩
end
theorem Rh.rs {w : World} {K n cap : Nat} {A : Option Addr} {l : List Rz} (h : Rh w K (.slice A n cap) l) : Rs9 w w.heap.size A cap l ∧ l.length = n :=
  ⟨⟨(So.sr encRz_len h.so).1, fun p hp => (So.sr encP_len (h.st p hp)).1, fun p hp => (So.sr encSm_len (h.ce p hp)).1⟩, (So.sr encRz_len h.so).2⟩
/-- The answer in box b: rows at A1, notes at A2. -/
structure Ah (w : World) (K b : Nat) (A1 A2 : Option Addr) (c1 c2 : Nat) (rows : List Rz) (notes : List Pz) : Prop where
  bx : Rwo w b (ceA A1 A2 rows.length notes.length c1 c2) 42
  rg : Rh w K (.slice A1 rows.length c1) rows
  pw : Pw w K 65 92 (.slice A2 notes.length c2) notes
section
variable {w w' : World} {K b c1 c2 : Nat} {A1 A2 : Option Addr} {rows : List Rz} {notes : List Pz}
theorem Ah.below (h : Ah w K b A1 A2 c1 c2 rows notes) (hb : Below w.heap.size w w') : Ah w' K b A1 A2 c1 c2 rows notes := ⟨h.bx.below hb, h.rg.below hb, h.pw.below hb⟩
theorem Rh.set (h : Rh w K (.slice A1 rows.length c1) rows) {cs : Array Value} (g : Rwo w b cs 42) (i : Nat) (u : Value) : Rh (w.setCell ⟨b, i, none⟩ u) K (.slice A1 rows.length c1) rows :=
  ⟨h.so.keep (grown_set _ _ _ _) (h.so.nebox g (by decide)), fun p hp => (h.st p hp).keep (grown_set _ _ _ _) ((h.st p hp).nebox g (by decide)), fun p hp => (h.ce p hp).keep (grown_set _ _ _ _) ((h.ce p hp).nebox g (by decide))⟩
theorem Pw.setH {v : Value} {l : List Pz} (h : Pw w K 65 92 v l) {cs : Array Value} (g : Rwo w b cs 42) (i : Nat) (u : Value) : Pw (w.setCell ⟨b, i, none⟩ u) K 65 92 v l :=
  ⟨h.so.keep (grown_set _ _ _ _) (h.so.nebox g (by decide)), fun p hp => (h.st p hp).keep (grown_set _ _ _ _) ((h.st p hp).nebox g (by decide))⟩
end
inductive Vt9 where
  | v (x : Value)
  | cl
  | ce
  | ag
  | li
  | ap
def Vt9.isAp : Vt9 → Bool
  | .ap => true
  | _ => false
/-- What is known of an operation's value, where a row is laid behind the document's rows. -/
def HT (s : List Pp) (cells : List Smp) (K : Nat) (rows : List Rz) (k B : Nat) : Vt9 → Value → World → Prop
  | .v x, u, _ => u = x
  | .cl, u, w => ∃ A c, u = .slice A s.length c ∧ So encP 2 w B 92 (.slice A s.length c) s
  | .ce, u, w => ∃ A c, u = .slice A cells.length c ∧ So encSm 2 w B 83 (.slice A cells.length c) cells
  | .ag, u, w => ∃ A c C d, u = .agg #[.slice A s.length c, .slice C cells.length d] ∧ So encP 2 w B 92 (.slice A s.length c) s ∧ So encSm 2 w B 83 (.slice C cells.length d) cells
  | .li, u, w => ∃ g A c C d, u = .slice (some ⟨g, 0, none⟩) 1 1 ∧ B ≤ g ∧ w.heap[g]? = some (.cells #[.slice A s.length c, .slice C cells.length d] 87) ∧ So encP 2 w B 92 (.slice A s.length c) s ∧ So encSm 2 w B 83 (.slice C cells.length d) cells
  | .ap, u, w => ∃ A c r, u = .slice A (k + 1) c ∧ r.1 = (s, cells) ∧ Rh w K (.slice A (k + 1) c) (rows ++ [r])
section
variable {s : List Pp} {cells : List Smp} {K k : Nat} {rows : List Rz} {B : Nat} {y : Vt9} {u : Value} {w w' : World}
theorem HT.mono (h : HT s cells K rows k B y u w) (hb : Below w.heap.size w w') : HT s cells K rows k B y u w' := by
  cases y with
  | v x => exact h
  | cl => obtain ⟨A, c, e, r⟩ := h; exact ⟨A, c, e, r.below hb⟩
  | ce => obtain ⟨A, c, e, r⟩ := h; exact ⟨A, c, e, r.below hb⟩
  | ag => obtain ⟨A, c, C, d, e, r, q⟩ := h; exact ⟨A, c, C, d, e, r.below hb, q.below hb⟩
  | li =>
    obtain ⟨g, A, c, C, d, e, hg, hc, r, q⟩ := h
    exact ⟨g, A, c, C, d, e, hg, (hb.block g (Array.getElem?_eq_some_iff.1 hc).1).trans hc, r.below hb, q.below hb⟩
  | ap => obtain ⟨A, c, r, e, f, h⟩ := h; exact ⟨A, c, r, e, f, h.below hb⟩
theorem HT.grown (hy : y.isAp = false) (h : HT s cells K rows k B y u w) {v : Value} {l : List Rz} {K2 : Nat} (hv : So encRz 2 w K2 87 v l) (hg : w.grownBy w' v.ownBlock) (hB : ∀ g, v.ownBlock = some g → g < B) : HT s cells K rows k B y u w' := by
  cases y with
  | v x => exact h
  | cl => obtain ⟨A, c, e, r⟩ := h; exact ⟨A, c, e, r.keepO hv (by decide) hg⟩
  | ce => obtain ⟨A, c, e, r⟩ := h; exact ⟨A, c, e, r.keepO hv (by decide) hg⟩
  | ag => obtain ⟨A, c, C, d, e, r, q⟩ := h; exact ⟨A, c, C, d, e, r.keepO hv (by decide) hg, q.keepO hv (by decide) hg⟩
  | li =>
    obtain ⟨g, A, c, C, d, e, hgB, hc, r, q⟩ := h
    refine ⟨g, A, c, C, d, e, hgB, (hg.block g (Array.getElem?_eq_some_iff.1 hc).1 fun e => ?_).trans hc, r.keepO hv (by decide) hg, q.keepO hv (by decide) hg⟩
    have := hB g e.symm
    omega
  | ap => cases hy
end
/-- Told's statement that lays a row: what stands while its operations come up. -/
structure Gu (W1 : World) (fl : Bool) (wx : World) (K KP b b5 : Nat) (A : Option Addr) (c k : Nat) (x : Rz) (rs : List Rz) : Prop where
  ls : Lr wx KP x.2.1.1 x.2.1.2 x.1.1
  lc : Sr encSm 2 wx KP x.2.2.1 x.2.2.2 x.1.2
  sz : W1.heap.size ≤ wx.heap.size
  bl : Below K W1 wx
  bx : Rwo wx b (ceA A none k 0 c 0) 42
  rb : Rwo wx b5 #[.slice x.2.1.1 x.1.1.length x.2.1.2, .slice x.2.2.1 x.1.2.length x.2.2.2] 57
  lt : ∀ g, (Value.slice A k c).ownBlock = some g → g < W1.heap.size
  hk : K ≤ W1.heap.size
  hp : KP ≤ K
  rg : fl = false → Rh wx K (.slice A k c) rs
def ToldF (W1 wx : World) (K b k : Nat) (x : Rz) (rs : List Rz) : Prop :=
  ∃ A c r, r.1 = x.1 ∧ Rwo wx b (ceA A none (k + 1) 0 c 0) 42 ∧ Rh wx K (.slice A (k + 1) c) (rs ++ [r]) ∧ Below K W1 wx
section
variable {W1 wx wy : World} {fl : Bool} {K KP b b5 c k : Nat} {A : Option Addr} {x : Rz} {rs : List Rz}
theorem Gu.below (h : Gu W1 fl wx K KP b b5 A c k x rs) (hb : Below wx.heap.size wx wy) : Gu W1 fl wy K KP b b5 A c k x rs :=
  ⟨h.ls.below (hb.mono (Nat.le_trans h.hp (Nat.le_trans h.hk h.sz))), h.lc.below (hb.mono (Nat.le_trans h.hp (Nat.le_trans h.hk h.sz))), Nat.le_trans h.sz hb.size, h.bl.trans (hb.mono (Nat.le_trans h.hk h.sz)), h.bx.below hb, h.rb.below hb, h.lt, h.hk, h.hp, fun e => (h.rg e).below hb⟩
theorem Gu.app (h : Gu W1 fl wx K KP b b5 A c k x rs) (hr : So encRz 2 wx K 87 (.slice A k c) rs) (hg : wx.grownBy wy (Value.slice A k c).ownBlock) : Gu W1 true wy K KP b b5 A c k x rs := by
  have hb : Below K wx wy := grown_belowE (Below.refl _ _) hg (Nat.le_trans h.hk h.sz) (fun _ e => (hr.lt _ e).1)
  exact ⟨h.ls.below (hb.mono h.hp), h.lc.below (hb.mono h.hp), Nat.le_trans h.sz hb.size, h.bl.trans hb, h.bx.grown hg (hr.nebox2 h.bx (by decide)), h.rb.grown hg (hr.nebox2 h.rb (by decide)), h.lt, h.hk, h.hp, fun e => by cases e⟩
theorem Rh.setK {w : World} {K b : Nat} {v : Value} {l : List Rz} (h : Rh w K v l) {cs : Array Value} (g : Rwo w b cs 42) (i : Nat) (u : Value) : Rh (w.setCell ⟨b, i, none⟩ u) K v l :=
  ⟨h.so.keep (grown_set _ _ _ _) (h.so.nebox g (by decide)), fun p hp => (h.st p hp).keep (grown_set _ _ _ _) ((h.st p hp).nebox g (by decide)), fun p hp => (h.ce p hp).keep (grown_set _ _ _ _) ((h.ce p hp).nebox g (by decide))⟩
theorem Gu.fin (h : Gu W1 fl wx K KP b b5 A c k x rs) (hKb : K ≤ b) {A9 : Option Addr} {c9 : Nat} {r : Rz} (e : r.1 = x.1) (hr : Rh wx K (.slice A9 (k + 1) c9) (rs ++ [r])) :
    ToldF W1 (wx.setCell ⟨b, 0, none⟩ (.slice A9 (k + 1) c9)) K b k x rs :=
  ⟨A9, c9, r, e, h.bx.set 0 _, hr.setK h.bx 0 _, h.bl.setCell hKb _⟩
end
theorem answ_ne {b b5 k c : Nat} {A : Option Addr} {x : Rz} : ∀ j, Nat.beq j 10 = false → Vt9.isAp (([.v (.pointer (some ⟨b, 0, none⟩)), .v (.slice A k c), .v (.pointer (some ⟨b5, 0, none⟩)), .v (.slice x.2.1.1 x.1.1.length x.2.1.2), .cl, .v (.pointer (some ⟨b5, 1, none⟩)), .v (.slice x.2.2.1 x.1.2.length x.2.2.2), .ce, .ag, .li, .ap, .v (.pointer (some ⟨b, 0, none⟩)), .v undef] : List Vt9).getD j (.v undef)) = false
  | 0, _ => rfl
  | 1, _ => rfl
  | 2, _ => rfl
  | 3, _ => rfl
  | 4, _ => rfl
  | 5, _ => rfl
  | 6, _ => rfl
  | 7, _ => rfl
  | 8, _ => rfl
  | 9, _ => rfl
  | 10, h => by cases h
  | 11, _ => rfl
  | 12, _ => rfl
  | _ + 13, _ => rfl
/-- What Told gives. -/
def AnsP (w : World) (rows : List Rowq) (notes : List Pt) (e : Ending) (w' : World) : Prop :=
  ∃ A1 A2 c1 c2 rs ns, e = .returned (.agg #[.slice A1 rows.length c1, .slice A2 notes.length c2]) ∧ rs.map Prod.fst = rows ∧ ns.map Prod.fst = notes ∧ Rh w' w.heap.size (.slice A1 rows.length c1) rs ∧
    Pw w' w.heap.size 65 92 (.slice A2 notes.length c2) ns ∧ Below w.heap.size w w'
set_option maxRecDepth 100000 in
set_option maxHeartbeats 3200000 in
theorem answ_any (KP : Nat) (A1 A2 : Option Addr) (c1 c2 : Nat) (l : List Rz) (m : List Pz) (w : World) (hr : Rs9 w KP A1 c1 l) (hm : Ps w KP A2 c2 m) (hKP : KP ≤ w.heap.size) (hl : l.length ≤ 4194304) (hml : m.length ≤ 1048576)
    (hsm : ∀ r ∈ l, r.1.1.length ≤ 1048576 ∧ r.1.2.length ≤ 1048576) (hsn : ∀ x ∈ m, x.1.set.length ≤ 1048576) :
    Calls Tryz.prog 11 #[.agg #[.slice A1 l.length c1, .slice A2 m.length c2]] w (AnsP w (l.map Prod.fst) (m.map Prod.fst)) := by
  have hle := hr.sr.le
  have hmax := hr.sr.max
  unfold maxLen at hmax
  obtain ⟨W0, hW0⟩ : ∃ W0, W0 = ((w.alloc (.cells (ceA A1 A2 l.length m.length c1 c2) 30)).alloc (.cells #[.slice none 0 0, .slice none 0 0] 42)).alloc (.cells #[.slice none 0 0, .slice none 0 0] 42) := ⟨_, rfl⟩
  have B0 : Below w.heap.size w W0 := by rw [hW0]; go_grown
  have hz : W0.heap.size = w.heap.size + 3 := by rw [hW0]; simp
  have HXA : Hid (Rwo W0 w.heap.size (ceA A1 A2 l.length m.length c1 c2) 30) := Lib.hid ⟨by
    rw [hW0, Below.heap_alloc _ _ _ (by simp; omega), Below.heap_alloc _ _ _ (by simp)]
    exact heap_alloc_new w _⟩
  have HXR : Hid (Rwo W0 (w.heap.size + 1) #[.slice none 0 0, .slice none 0 0] 42) := Lib.hid ⟨by
    rw [hW0, Below.heap_alloc _ _ _ (by simp)]
    have := heap_alloc_new (w.alloc (.cells (ceA A1 A2 l.length m.length c1 c2) 30)) (.cells #[.slice none 0 0, .slice none 0 0] 42)
    simpa using this⟩
  have HXO : Hid (Rwo W0 (w.heap.size + 2) (ceA none none 0 0 0 0) 42) := Lib.hid ⟨by
    rw [hW0]
    have := heap_alloc_new ((w.alloc (.cells (ceA A1 A2 l.length m.length c1 c2) 30)).alloc (.cells #[.slice none 0 0, .slice none 0 0] 42)) (.cells #[.slice none 0 0, .slice none 0 0] 42)
    simpa using this⟩
  have HRS := Lib.hid (hr.below (B0.mono hKP))
  have HPM := Lib.hid (hm.below (B0.mono hKP))
  have HB0 := Lib.hid B0
  have HWW := Lib.hid hW0
  have HSM := Lib.hid hsm
  have HSN := Lib.hid hsn
  obtain ⟨b, hb⟩ : ∃ b, b = w.heap.size + 2 := ⟨_, rfl⟩
  obtain ⟨K, hK⟩ : ∃ K, K = w.heap.size + 2 := ⟨_, rfl⟩
  have hKP1 : KP ≤ K := by omega
  have HBB := Lib.hid hb
  have HXA9 : Hid (∀ wx, Below K W0 wx → Rwo wx w.heap.size (ceA A1 A2 l.length m.length c1 c2) 30) := Lib.hid fun wx h => ⟨(h.block _ (by omega)).trans HXA.out.hp⟩
  have HXR9 : Hid (∀ wx, Below K W0 wx → Rwo wx (w.heap.size + 1) #[.slice none 0 0, .slice none 0 0] 42) := Lib.hid fun wx h => ⟨(h.block _ (by omega)).trans HXR.out.hp⟩
  have a0 : W0.cell? ⟨w.heap.size, 0, none⟩ = some (.slice A1 l.length c1) := HXA.out.cell rfl
  rw [← hb] at HXO
  clear hr hm B0 hW0 hsm hsn
  have hz0 : w.heap.size < W0.heap.size := by omega
  have hKW0 : K ≤ W0.heap.size := by omega
  have hwK : w.heap.size + 1 < K := by omega
  have hKb : K ≤ b := by omega
  clear hz hb hK
  go_enter Tryz.func11, Tryz.ntmps11
  go_upto_region 2 with fail
  rw [← HWW.out]
  go_wp2_with fail
  rw [← HBB.out]
  go_loopw [9] (fun v9 wr => ∃ (k : Nat) (A : Option Addr) (c : Nat) (rs : List Rz), k ≤ l.length ∧ v9 = .int .i64 k ∧ Rwo wr b (ceA A none k 0 c 0) 42 ∧ Rh wr K (.slice A k c) rs ∧ rs.map Prod.fst = (l.map Prod.fst).take k ∧ rs.length = k ∧ Below K W0 wr) (fun i _ => l.length - (intOf i).toNat)
  case atStart => exact ⟨0, none, 0, [], Nat.zero_le _, rfl, HXO.out, Rh.empty _ _, rfl, rfl, Below.refl _ _⟩
  case round =>
    obtain ⟨k, A, c, rs, hk, rfl, hbx, hrh, hrm, hrk0, hbl⟩ := hrel
    rename World => wr
    have z := hbl.size
    have hKr : K ≤ wr.heap.size := by omega
    by_cases hlt : k < l.length
    · obtain ⟨ad, hA, hadK, g0, g1⟩ := rs_cells (HRS.out.sr.below (hbl.mono hKP1)) hlt
      subst hA
      obtain ⟨x, hx⟩ : ∃ x, x = l[k] := ⟨_, rfl⟩
      have hst := (HRS.out.st l[k] (List.getElem_mem hlt)).below (hbl.mono hKP1)
      have hsc := (HRS.out.ce l[k] (List.getElem_mem hlt)).below (hbl.mono hKP1)
      have hs0 := HSM.out l[k] (List.getElem_mem hlt)
      rw [← hx] at g0 g1 hst hsc hs0
      have HXL := Lib.hid (show l[k].1 = x.1 by rw [hx]).symm
      have HRM := Lib.hid hrm
      have hrk := Lib.hid hrk0
      have hrl9 : Hid (rs.length ≤ 4194304) := Lib.hid (by omega)
      have hsl9 : Hid (x.1.1.length * 32 ≤ 140737488355328) := Lib.hid (by omega)
      have hcl9 : Hid (x.1.2.length * 16 ≤ 140737488355328) := Lib.hid (by omega)
      have hKb9 : Hid (K ≤ b) := Lib.hid (by omega)
      obtain ⟨b5, hb5⟩ : ∃ b5, b5 = wr.heap.size := ⟨_, rfl⟩
      obtain ⟨w1, hw1⟩ : ∃ w1, w1 = wr.alloc (.cells #[.slice x.2.1.1 x.1.1.length x.2.1.2, .slice x.2.2.1 x.1.2.length x.2.2.2] 57) := ⟨_, rfl⟩
      have hba : Below wr.heap.size wr w1 := by rw [hw1]; exact (Below.refl _ _).alloc (Nat.le_refl _) _
      have hz1 : w1.heap.size = wr.heap.size + 1 := by rw [hw1]; simp
      have HB1 : Hid (Below K W0 w1) := Lib.hid (hbl.trans (hba.mono hKr))
      have hRb : Rwo w1 b5 #[.slice x.2.1.1 x.1.1.length x.2.1.2, .slice x.2.2.1 x.1.2.length x.2.2.2] 57 := ⟨by rw [hw1, hb5]; exact heap_alloc_new wr _⟩
      have hKP2 : Hid (KP ≤ w1.heap.size) := Lib.hid (by omega)
      have hKW : Hid (K ≤ w1.heap.size) := Lib.hid (by omega)
      have HG0 : Hid (Gu w1 false w1 K KP b b5 A c k x rs) := Lib.hid ⟨hst.below (hba.mono (by omega)), hsc.below (hba.mono (by omega)), Nat.le_refl _, Below.refl _ _, hbx.below hba, hRb, fun g e => by have := (hrh.so.lt g e).2; omega, by omega, hKP1, fun _ => hrh.below hba⟩
      have HB5 := Lib.hid hb5
      have HW1 := Lib.hid hw1
      clear hst hsc hs0 hrm hrk0 hx hb5 hw1 hba hz1 hRb hbx hrh hbl
      go_upto_region 5 with fail
      rw [← HB5.out, ← HW1.out]
      clear HW1 HB5 g0 g1
      apply region_GS (HT x.1.1 x.1.2 K rs k w1.heap.size) (fun fl wx => Gu w1 fl wx K KP b b5 A c k x rs) (fun wx => ToldF w1 wx K b k x rs) 10 12 [.v (.pointer (some ⟨b, 0, none⟩)), .v (.slice A k c), .v (.pointer (some ⟨b5, 0, none⟩)), .v (.slice x.2.1.1 x.1.1.length x.2.1.2), .cl, .v (.pointer (some ⟨b5, 1, none⟩)), .v (.slice x.2.2.1 x.1.2.length x.2.2.2), .ce, .ag, .li, .ap, .v (.pointer (some ⟨b, 0, none⟩)), .v undef] (.v undef)
      case hl => kernel_rfl
      case hm => kernel_rfl
      case hf => kernel_rfl
      case hp => kernel_rfl
      case hQ => exact (by intro c x y w e h; exact And.intro (e.symm.trans (And.left h)) (And.right h))
      case hF => intro vs; simp only [putAll, Act.put, List.setIfInBounds_toArray, List.set_cons_zero, List.set_cons_succ, Nat.reduceAdd]; rfl
      case h0 => exact HG0.out.below ⟨rfl, rfl, rfl, Nat.le_refl _, fun _ _ => rfl⟩
      case hstep =>
        repeat' (first | exact AllOps.nil | apply AllOps.cons)
        · intro vs yb wx hG hd hbp hbn K9 hK
          replace hK : ∀ (uu : Value) (w' : World), ((fun fl wx => Gu w1 fl wx K KP b b5 A c k x rs)) yb w' → (∀ j u, Nat.beq j 0 = false → (HT x.1.1 x.1.2 K rs k w1.heap.size) (([.v (.pointer (some ⟨b, 0, none⟩)), .v (.slice A k c), .v (.pointer (some ⟨b5, 0, none⟩)), .v (.slice x.2.1.1 x.1.1.length x.2.1.2), .cl, .v (.pointer (some ⟨b5, 1, none⟩)), .v (.slice x.2.2.1 x.1.2.length x.2.2.2), .ce, .ag, .li, .ap, .v (.pointer (some ⟨b, 0, none⟩)), .v undef] : List _).getD j (.v undef)) u wx → (HT x.1.1 x.1.2 K rs k w1.heap.size) (([.v (.pointer (some ⟨b, 0, none⟩)), .v (.slice A k c), .v (.pointer (some ⟨b5, 0, none⟩)), .v (.slice x.2.1.1 x.1.1.length x.2.1.2), .cl, .v (.pointer (some ⟨b5, 1, none⟩)), .v (.slice x.2.2.1 x.1.2.length x.2.2.2), .ce, .ag, .li, .ap, .v (.pointer (some ⟨b, 0, none⟩)), .v undef] : List _).getD j (.v undef)) u w') → (HT x.1.1 x.1.2 K rs k w1.heap.size) (.v (.pointer (some ⟨b, 0, none⟩))) uu w' → K9 _ w' := hK
          simp only [Act.put, List.setIfInBounds_toArray, List.set_cons_zero, List.set_cons_succ] at hK ⊢
          have HK := Lib.hid hK
          have HG := Lib.hid hG
          clear hK hd
          clear hG hbp hbn
          go_simp
          exact HK.out _ _ HG.out (fun _ _ _ h9 => h9) rfl
        · intro vs yb wx hG hd hbp hbn K9 hK
          have e0 : vs 0 = .pointer (some ⟨b, 0, none⟩) := hd.get (j := 0) (by simp [depsOf, Region.binds])
          replace hK : ∀ (uu : Value) (w' : World), ((fun fl wx => Gu w1 fl wx K KP b b5 A c k x rs)) yb w' → (∀ j u, Nat.beq j 1 = false → (HT x.1.1 x.1.2 K rs k w1.heap.size) (([.v (.pointer (some ⟨b, 0, none⟩)), .v (.slice A k c), .v (.pointer (some ⟨b5, 0, none⟩)), .v (.slice x.2.1.1 x.1.1.length x.2.1.2), .cl, .v (.pointer (some ⟨b5, 1, none⟩)), .v (.slice x.2.2.1 x.1.2.length x.2.2.2), .ce, .ag, .li, .ap, .v (.pointer (some ⟨b, 0, none⟩)), .v undef] : List _).getD j (.v undef)) u wx → (HT x.1.1 x.1.2 K rs k w1.heap.size) (([.v (.pointer (some ⟨b, 0, none⟩)), .v (.slice A k c), .v (.pointer (some ⟨b5, 0, none⟩)), .v (.slice x.2.1.1 x.1.1.length x.2.1.2), .cl, .v (.pointer (some ⟨b5, 1, none⟩)), .v (.slice x.2.2.1 x.1.2.length x.2.2.2), .ce, .ag, .li, .ap, .v (.pointer (some ⟨b, 0, none⟩)), .v undef] : List _).getD j (.v undef)) u w') → (HT x.1.1 x.1.2 K rs k w1.heap.size) (.v (.slice A k c)) uu w' → K9 _ w' := hK
          simp only [Act.put, List.setIfInBounds_toArray, List.set_cons_zero, List.set_cons_succ, e0] at hK ⊢
          have HK := Lib.hid hK
          have HG := Lib.hid hG
          clear hK hd e0
          have q0 : wx.cell? ⟨b, 0, none⟩ = some (.slice A k c) := HG.out.bx.cell rfl
          have q1 : wx.cell? ⟨b5, 0, none⟩ = some (.slice x.2.1.1 x.1.1.length x.2.1.2) := HG.out.rb.cell rfl
          have q2 : wx.cell? ⟨b5, 1, none⟩ = some (.slice x.2.2.1 x.1.2.length x.2.2.2) := HG.out.rb.cell rfl
          clear hG hbp hbn
          go_simp
          exact HK.out _ _ HG.out (fun _ _ _ h9 => h9) rfl
        · intro vs yb wx hG hd hbp hbn K9 hK
          replace hK : ∀ (uu : Value) (w' : World), ((fun fl wx => Gu w1 fl wx K KP b b5 A c k x rs)) yb w' → (∀ j u, Nat.beq j 2 = false → (HT x.1.1 x.1.2 K rs k w1.heap.size) (([.v (.pointer (some ⟨b, 0, none⟩)), .v (.slice A k c), .v (.pointer (some ⟨b5, 0, none⟩)), .v (.slice x.2.1.1 x.1.1.length x.2.1.2), .cl, .v (.pointer (some ⟨b5, 1, none⟩)), .v (.slice x.2.2.1 x.1.2.length x.2.2.2), .ce, .ag, .li, .ap, .v (.pointer (some ⟨b, 0, none⟩)), .v undef] : List _).getD j (.v undef)) u wx → (HT x.1.1 x.1.2 K rs k w1.heap.size) (([.v (.pointer (some ⟨b, 0, none⟩)), .v (.slice A k c), .v (.pointer (some ⟨b5, 0, none⟩)), .v (.slice x.2.1.1 x.1.1.length x.2.1.2), .cl, .v (.pointer (some ⟨b5, 1, none⟩)), .v (.slice x.2.2.1 x.1.2.length x.2.2.2), .ce, .ag, .li, .ap, .v (.pointer (some ⟨b, 0, none⟩)), .v undef] : List _).getD j (.v undef)) u w') → (HT x.1.1 x.1.2 K rs k w1.heap.size) (.v (.pointer (some ⟨b5, 0, none⟩))) uu w' → K9 _ w' := hK
          simp only [Act.put, List.setIfInBounds_toArray, List.set_cons_zero, List.set_cons_succ] at hK ⊢
          have HK := Lib.hid hK
          have HG := Lib.hid hG
          clear hK hd
          clear hG hbp hbn
          go_simp
          exact HK.out _ _ HG.out (fun _ _ _ h9 => h9) rfl
        · intro vs yb wx hG hd hbp hbn K9 hK
          have e2 : vs 2 = .pointer (some ⟨b5, 0, none⟩) := hd.get (j := 2) (by simp [depsOf, Region.binds])
          replace hK : ∀ (uu : Value) (w' : World), ((fun fl wx => Gu w1 fl wx K KP b b5 A c k x rs)) yb w' → (∀ j u, Nat.beq j 3 = false → (HT x.1.1 x.1.2 K rs k w1.heap.size) (([.v (.pointer (some ⟨b, 0, none⟩)), .v (.slice A k c), .v (.pointer (some ⟨b5, 0, none⟩)), .v (.slice x.2.1.1 x.1.1.length x.2.1.2), .cl, .v (.pointer (some ⟨b5, 1, none⟩)), .v (.slice x.2.2.1 x.1.2.length x.2.2.2), .ce, .ag, .li, .ap, .v (.pointer (some ⟨b, 0, none⟩)), .v undef] : List _).getD j (.v undef)) u wx → (HT x.1.1 x.1.2 K rs k w1.heap.size) (([.v (.pointer (some ⟨b, 0, none⟩)), .v (.slice A k c), .v (.pointer (some ⟨b5, 0, none⟩)), .v (.slice x.2.1.1 x.1.1.length x.2.1.2), .cl, .v (.pointer (some ⟨b5, 1, none⟩)), .v (.slice x.2.2.1 x.1.2.length x.2.2.2), .ce, .ag, .li, .ap, .v (.pointer (some ⟨b, 0, none⟩)), .v undef] : List _).getD j (.v undef)) u w') → (HT x.1.1 x.1.2 K rs k w1.heap.size) (.v (.slice x.2.1.1 x.1.1.length x.2.1.2)) uu w' → K9 _ w' := hK
          simp only [Act.put, List.setIfInBounds_toArray, List.set_cons_zero, List.set_cons_succ, e2] at hK ⊢
          have HK := Lib.hid hK
          have HG := Lib.hid hG
          clear hK hd e2
          have q0 : wx.cell? ⟨b, 0, none⟩ = some (.slice A k c) := HG.out.bx.cell rfl
          have q1 : wx.cell? ⟨b5, 0, none⟩ = some (.slice x.2.1.1 x.1.1.length x.2.1.2) := HG.out.rb.cell rfl
          have q2 : wx.cell? ⟨b5, 1, none⟩ = some (.slice x.2.2.1 x.1.2.length x.2.2.2) := HG.out.rb.cell rfl
          clear hG hbp hbn
          go_simp
          exact HK.out _ _ HG.out (fun _ _ _ h9 => h9) rfl
        · intro vs yb wx hG hd hbp hbn K9 hK
          have e3 : vs 3 = .slice x.2.1.1 x.1.1.length x.2.1.2 := hd.get (j := 3) (by simp [depsOf, Region.binds])
          replace hK : ∀ (uu : Value) (w' : World), ((fun fl wx => Gu w1 fl wx K KP b b5 A c k x rs)) yb w' → (∀ j u, Nat.beq j 4 = false → (HT x.1.1 x.1.2 K rs k w1.heap.size) (([.v (.pointer (some ⟨b, 0, none⟩)), .v (.slice A k c), .v (.pointer (some ⟨b5, 0, none⟩)), .v (.slice x.2.1.1 x.1.1.length x.2.1.2), .cl, .v (.pointer (some ⟨b5, 1, none⟩)), .v (.slice x.2.2.1 x.1.2.length x.2.2.2), .ce, .ag, .li, .ap, .v (.pointer (some ⟨b, 0, none⟩)), .v undef] : List _).getD j (.v undef)) u wx → (HT x.1.1 x.1.2 K rs k w1.heap.size) (([.v (.pointer (some ⟨b, 0, none⟩)), .v (.slice A k c), .v (.pointer (some ⟨b5, 0, none⟩)), .v (.slice x.2.1.1 x.1.1.length x.2.1.2), .cl, .v (.pointer (some ⟨b5, 1, none⟩)), .v (.slice x.2.2.1 x.1.2.length x.2.2.2), .ce, .ag, .li, .ap, .v (.pointer (some ⟨b, 0, none⟩)), .v undef] : List _).getD j (.v undef)) u w') → (HT x.1.1 x.1.2 K rs k w1.heap.size) (.cl) uu w' → K9 _ w' := hK
          simp only [Act.put, List.setIfInBounds_toArray, List.set_cons_zero, List.set_cons_succ, e3] at hK ⊢
          have HK := Lib.hid hK
          have HG := Lib.hid hG
          clear hK hd e3
          have HL := Lib.hid (HG.out.ls)
          have HS := Lib.hid (HG.out.sz)
          clear hG
          go_simp
          go_at_call 27
          refine (from_any KP x.2.1.1 x.1.1.length x.2.1.2 x.1.1 wx rfl HL.out (Nat.le_trans hKP2.out HS.out) hsl9.out).mono ?_
          rintro en w9 ⟨A9, c9, rfl, so9, hb⟩
          exact HK.out _ _ (HG.out.below hb) (fun j u _ h9 => HT.mono h9 hb) ⟨A9, c9, rfl, so9.more HS.out⟩
        · intro vs yb wx hG hd hbp hbn K9 hK
          replace hK : ∀ (uu : Value) (w' : World), ((fun fl wx => Gu w1 fl wx K KP b b5 A c k x rs)) yb w' → (∀ j u, Nat.beq j 5 = false → (HT x.1.1 x.1.2 K rs k w1.heap.size) (([.v (.pointer (some ⟨b, 0, none⟩)), .v (.slice A k c), .v (.pointer (some ⟨b5, 0, none⟩)), .v (.slice x.2.1.1 x.1.1.length x.2.1.2), .cl, .v (.pointer (some ⟨b5, 1, none⟩)), .v (.slice x.2.2.1 x.1.2.length x.2.2.2), .ce, .ag, .li, .ap, .v (.pointer (some ⟨b, 0, none⟩)), .v undef] : List _).getD j (.v undef)) u wx → (HT x.1.1 x.1.2 K rs k w1.heap.size) (([.v (.pointer (some ⟨b, 0, none⟩)), .v (.slice A k c), .v (.pointer (some ⟨b5, 0, none⟩)), .v (.slice x.2.1.1 x.1.1.length x.2.1.2), .cl, .v (.pointer (some ⟨b5, 1, none⟩)), .v (.slice x.2.2.1 x.1.2.length x.2.2.2), .ce, .ag, .li, .ap, .v (.pointer (some ⟨b, 0, none⟩)), .v undef] : List _).getD j (.v undef)) u w') → (HT x.1.1 x.1.2 K rs k w1.heap.size) (.v (.pointer (some ⟨b5, 1, none⟩))) uu w' → K9 _ w' := hK
          simp only [Act.put, List.setIfInBounds_toArray, List.set_cons_zero, List.set_cons_succ] at hK ⊢
          have HK := Lib.hid hK
          have HG := Lib.hid hG
          clear hK hd
          clear hG hbp hbn
          go_simp
          exact HK.out _ _ HG.out (fun _ _ _ h9 => h9) rfl
        · intro vs yb wx hG hd hbp hbn K9 hK
          have e5 : vs 5 = .pointer (some ⟨b5, 1, none⟩) := hd.get (j := 5) (by simp [depsOf, Region.binds])
          replace hK : ∀ (uu : Value) (w' : World), ((fun fl wx => Gu w1 fl wx K KP b b5 A c k x rs)) yb w' → (∀ j u, Nat.beq j 6 = false → (HT x.1.1 x.1.2 K rs k w1.heap.size) (([.v (.pointer (some ⟨b, 0, none⟩)), .v (.slice A k c), .v (.pointer (some ⟨b5, 0, none⟩)), .v (.slice x.2.1.1 x.1.1.length x.2.1.2), .cl, .v (.pointer (some ⟨b5, 1, none⟩)), .v (.slice x.2.2.1 x.1.2.length x.2.2.2), .ce, .ag, .li, .ap, .v (.pointer (some ⟨b, 0, none⟩)), .v undef] : List _).getD j (.v undef)) u wx → (HT x.1.1 x.1.2 K rs k w1.heap.size) (([.v (.pointer (some ⟨b, 0, none⟩)), .v (.slice A k c), .v (.pointer (some ⟨b5, 0, none⟩)), .v (.slice x.2.1.1 x.1.1.length x.2.1.2), .cl, .v (.pointer (some ⟨b5, 1, none⟩)), .v (.slice x.2.2.1 x.1.2.length x.2.2.2), .ce, .ag, .li, .ap, .v (.pointer (some ⟨b, 0, none⟩)), .v undef] : List _).getD j (.v undef)) u w') → (HT x.1.1 x.1.2 K rs k w1.heap.size) (.v (.slice x.2.2.1 x.1.2.length x.2.2.2)) uu w' → K9 _ w' := hK
          simp only [Act.put, List.setIfInBounds_toArray, List.set_cons_zero, List.set_cons_succ, e5] at hK ⊢
          have HK := Lib.hid hK
          have HG := Lib.hid hG
          clear hK hd e5
          have q0 : wx.cell? ⟨b, 0, none⟩ = some (.slice A k c) := HG.out.bx.cell rfl
          have q1 : wx.cell? ⟨b5, 0, none⟩ = some (.slice x.2.1.1 x.1.1.length x.2.1.2) := HG.out.rb.cell rfl
          have q2 : wx.cell? ⟨b5, 1, none⟩ = some (.slice x.2.2.1 x.1.2.length x.2.2.2) := HG.out.rb.cell rfl
          clear hG hbp hbn
          go_simp
          exact HK.out _ _ HG.out (fun _ _ _ h9 => h9) rfl
        · intro vs yb wx hG hd hbp hbn K9 hK
          have e6 : vs 6 = .slice x.2.2.1 x.1.2.length x.2.2.2 := hd.get (j := 6) (by simp [depsOf, Region.binds])
          replace hK : ∀ (uu : Value) (w' : World), ((fun fl wx => Gu w1 fl wx K KP b b5 A c k x rs)) yb w' → (∀ j u, Nat.beq j 7 = false → (HT x.1.1 x.1.2 K rs k w1.heap.size) (([.v (.pointer (some ⟨b, 0, none⟩)), .v (.slice A k c), .v (.pointer (some ⟨b5, 0, none⟩)), .v (.slice x.2.1.1 x.1.1.length x.2.1.2), .cl, .v (.pointer (some ⟨b5, 1, none⟩)), .v (.slice x.2.2.1 x.1.2.length x.2.2.2), .ce, .ag, .li, .ap, .v (.pointer (some ⟨b, 0, none⟩)), .v undef] : List _).getD j (.v undef)) u wx → (HT x.1.1 x.1.2 K rs k w1.heap.size) (([.v (.pointer (some ⟨b, 0, none⟩)), .v (.slice A k c), .v (.pointer (some ⟨b5, 0, none⟩)), .v (.slice x.2.1.1 x.1.1.length x.2.1.2), .cl, .v (.pointer (some ⟨b5, 1, none⟩)), .v (.slice x.2.2.1 x.1.2.length x.2.2.2), .ce, .ag, .li, .ap, .v (.pointer (some ⟨b, 0, none⟩)), .v undef] : List _).getD j (.v undef)) u w') → (HT x.1.1 x.1.2 K rs k w1.heap.size) (.ce) uu w' → K9 _ w' := hK
          simp only [Act.put, List.setIfInBounds_toArray, List.set_cons_zero, List.set_cons_succ, e6] at hK ⊢
          have HK := Lib.hid hK
          have HG := Lib.hid hG
          clear hK hd e6
          have HL := Lib.hid (HG.out.lc)
          have HS := Lib.hid (HG.out.sz)
          clear hG
          go_simp
          go_at_call 28
          refine (tyfrom_any KP x.2.2.1 x.1.2.length x.2.2.2 x.1.2 wx rfl HL.out (Nat.le_trans hKP2.out HS.out) hcl9.out).mono ?_
          rintro en w9 ⟨A9, c9, rfl, so9, hb⟩
          exact HK.out _ _ (HG.out.below hb) (fun j u _ h9 => HT.mono h9 hb) ⟨A9, c9, rfl, so9.more HS.out⟩
        · intro vs yb wx hG hd hbp hbn K9 hK
          obtain ⟨A4, d4, e4, r4⟩ : ∃ A' c', vs 4 = .slice A' x.1.1.length c' ∧ So encP 2 wx w1.heap.size 92 (.slice A' x.1.1.length c') x.1.1 := hd.get (j := 4) (by simp [depsOf, Region.binds])
          obtain ⟨A7, d7, e7, r7⟩ : ∃ A' c', vs 7 = .slice A' x.1.2.length c' ∧ So encSm 2 wx w1.heap.size 83 (.slice A' x.1.2.length c') x.1.2 := hd.get (j := 7) (by simp [depsOf, Region.binds])
          replace hK : ∀ (uu : Value) (w' : World), ((fun fl wx => Gu w1 fl wx K KP b b5 A c k x rs)) yb w' → (∀ j u, Nat.beq j 8 = false → (HT x.1.1 x.1.2 K rs k w1.heap.size) (([.v (.pointer (some ⟨b, 0, none⟩)), .v (.slice A k c), .v (.pointer (some ⟨b5, 0, none⟩)), .v (.slice x.2.1.1 x.1.1.length x.2.1.2), .cl, .v (.pointer (some ⟨b5, 1, none⟩)), .v (.slice x.2.2.1 x.1.2.length x.2.2.2), .ce, .ag, .li, .ap, .v (.pointer (some ⟨b, 0, none⟩)), .v undef] : List _).getD j (.v undef)) u wx → (HT x.1.1 x.1.2 K rs k w1.heap.size) (([.v (.pointer (some ⟨b, 0, none⟩)), .v (.slice A k c), .v (.pointer (some ⟨b5, 0, none⟩)), .v (.slice x.2.1.1 x.1.1.length x.2.1.2), .cl, .v (.pointer (some ⟨b5, 1, none⟩)), .v (.slice x.2.2.1 x.1.2.length x.2.2.2), .ce, .ag, .li, .ap, .v (.pointer (some ⟨b, 0, none⟩)), .v undef] : List _).getD j (.v undef)) u w') → (HT x.1.1 x.1.2 K rs k w1.heap.size) (.ag) uu w' → K9 _ w' := hK
          simp only [Act.put, List.setIfInBounds_toArray, List.set_cons_zero, List.set_cons_succ, e4, e7] at hK ⊢
          have HK := Lib.hid hK
          have HG := Lib.hid hG
          clear hK hd e4 e7
          clear hG
          go_simp
          exact HK.out _ _ HG.out (fun _ _ _ h9 => h9) ⟨_, _, _, _, rfl, r4, r7⟩
        · intro vs yb wx hG hd hbp hbn K9 hK
          obtain ⟨A8, d8, B8, q8, e8, r8, p8⟩ : ∃ A' c' B' d', vs 8 = .agg #[.slice A' x.1.1.length c', .slice B' x.1.2.length d'] ∧ So encP 2 wx w1.heap.size 92 (.slice A' x.1.1.length c') x.1.1 ∧ So encSm 2 wx w1.heap.size 83 (.slice B' x.1.2.length d') x.1.2 := hd.get (j := 8) (by simp [depsOf, Region.binds])
          replace hK : ∀ (uu : Value) (w' : World), ((fun fl wx => Gu w1 fl wx K KP b b5 A c k x rs)) yb w' → (∀ j u, Nat.beq j 9 = false → (HT x.1.1 x.1.2 K rs k w1.heap.size) (([.v (.pointer (some ⟨b, 0, none⟩)), .v (.slice A k c), .v (.pointer (some ⟨b5, 0, none⟩)), .v (.slice x.2.1.1 x.1.1.length x.2.1.2), .cl, .v (.pointer (some ⟨b5, 1, none⟩)), .v (.slice x.2.2.1 x.1.2.length x.2.2.2), .ce, .ag, .li, .ap, .v (.pointer (some ⟨b, 0, none⟩)), .v undef] : List _).getD j (.v undef)) u wx → (HT x.1.1 x.1.2 K rs k w1.heap.size) (([.v (.pointer (some ⟨b, 0, none⟩)), .v (.slice A k c), .v (.pointer (some ⟨b5, 0, none⟩)), .v (.slice x.2.1.1 x.1.1.length x.2.1.2), .cl, .v (.pointer (some ⟨b5, 1, none⟩)), .v (.slice x.2.2.1 x.1.2.length x.2.2.2), .ce, .ag, .li, .ap, .v (.pointer (some ⟨b, 0, none⟩)), .v undef] : List _).getD j (.v undef)) u w') → (HT x.1.1 x.1.2 K rs k w1.heap.size) (.li) uu w' → K9 _ w' := hK
          simp only [Act.put, List.setIfInBounds_toArray, List.set_cons_zero, List.set_cons_succ, e8] at hK ⊢
          have HK := Lib.hid hK
          have HG := Lib.hid hG
          clear hK hd e8
          have HS := Lib.hid (HG.out.sz)
          clear hG
          go_simp
          have hb : Below wx.heap.size wx (wx.alloc (.cells #[.slice A8 x.1.1.length d8, .slice B8 x.1.2.length q8] 87)) := (Below.refl _ _).alloc (Nat.le_refl _) _
          exact HK.out _ _ (HG.out.below hb) (fun j u _ h9 => HT.mono h9 hb) ⟨wx.heap.size, A8, d8, B8, q8, rfl, HS.out, heap_alloc_new wx _, r8.below hb, p8.below hb⟩
        · intro vs yb wx hG hd hbp hbn K9 hK
          have e1 : vs 1 = .slice A k c := hd.get (j := 1) (by simp [depsOf, Region.binds])
          obtain ⟨g9, A9, d9, B9, q9, e9, f9, h9, r9, p9⟩ : ∃ g A' c' B' d', vs 9 = .slice (some ⟨g, 0, none⟩) 1 1 ∧ w1.heap.size ≤ g ∧ wx.heap[g]? = some (.cells #[.slice A' x.1.1.length c', .slice B' x.1.2.length d'] 87) ∧ So encP 2 wx w1.heap.size 92 (.slice A' x.1.1.length c') x.1.1 ∧ So encSm 2 wx w1.heap.size 83 (.slice B' x.1.2.length d') x.1.2 := hd.get (j := 9) (by simp [depsOf, Region.binds])
          replace hK : ∀ (uu : Value) (w' : World), ((fun fl wx => Gu w1 fl wx K KP b b5 A c k x rs)) true w' → (∀ j u, Nat.beq j 10 = false → (HT x.1.1 x.1.2 K rs k w1.heap.size) (([.v (.pointer (some ⟨b, 0, none⟩)), .v (.slice A k c), .v (.pointer (some ⟨b5, 0, none⟩)), .v (.slice x.2.1.1 x.1.1.length x.2.1.2), .cl, .v (.pointer (some ⟨b5, 1, none⟩)), .v (.slice x.2.2.1 x.1.2.length x.2.2.2), .ce, .ag, .li, .ap, .v (.pointer (some ⟨b, 0, none⟩)), .v undef] : List _).getD j (.v undef)) u wx → (HT x.1.1 x.1.2 K rs k w1.heap.size) (([.v (.pointer (some ⟨b, 0, none⟩)), .v (.slice A k c), .v (.pointer (some ⟨b5, 0, none⟩)), .v (.slice x.2.1.1 x.1.1.length x.2.1.2), .cl, .v (.pointer (some ⟨b5, 1, none⟩)), .v (.slice x.2.2.1 x.1.2.length x.2.2.2), .ce, .ag, .li, .ap, .v (.pointer (some ⟨b, 0, none⟩)), .v undef] : List _).getD j (.v undef)) u w') → (HT x.1.1 x.1.2 K rs k w1.heap.size) (.ap) uu w' → K9 _ w' := hK
          simp only [Act.put, List.setIfInBounds_toArray, List.set_cons_zero, List.set_cons_succ, e1, e9] at hK ⊢
          have HK := Lib.hid hK
          have HG := Lib.hid hG
          clear hK hd e1 e9
          have hyb : yb = false := hbp rfl
          subst hyb
          have hrg := HG.out.rg rfl
          have hsz := HG.out.sz
          have hsr : Sr encRz 2 wx wx.heap.size (some ⟨g9, 0, none⟩) 1 [((x.1, (A9, d9), (B9, q9)) : Rz)] := sr_lit h9 rfl
          clear hG
          apply step_appE Tryz.underlying40 info_drow rfl (by decide) encRz_len encRz_one (K := K) (v := .slice A k c) (l := rs) (A := some ⟨g9, 0, none⟩) (cap := 1) (m := [((x.1, (A9, d9), (B9, q9)) : Rz)]) (K' := wx.heap.size) (s := .tmp 14) (x := .tmp 22)
          case hgd => rfl
          case ho => rfl
          case hs => rfl
          case hx => rfl
          case hown => exact hrg.so
          case hsrc => exact hsr
          case hm => unfold maxLen; have := hrl9.out; simp only [List.length_singleton]; omega
          case hsz => have := hrl9.out; simp only [List.length_singleton]; omega
          case hbase => exact Nat.le_trans hKW.out hsz
          intro A5 c5 w5 so5 hg5
          have so6 : So encRz 2 w5 K 87 (.slice A5 (rs.length + 1) c5) (rs ++ [((x.1, (A9, d9), (B9, q9)) : Rz)]) := so5
          have hk := hrg.push (r := (x.1, (A9, d9), (B9, q9))) (r9.more hKW.out) (p9.more hKW.out) hg5 so6
          rw [hrk.out] at hk
          have hlt9 : ∀ g, (Value.slice A k c).ownBlock = some g → g < w1.heap.size := HG.out.lt
          simp only [Act.put, List.setIfInBounds_toArray, List.set_cons_zero, List.set_cons_succ]
          exact HK.out _ _ (HG.out.app hrg.so hg5) (fun j u hj h9 => HT.grown (answ_ne j hj) h9 hrg.so hg5 hlt9) ⟨A5, c5, (x.1, (A9, d9), (B9, q9)), by rw [hrk.out] <;> rfl, rfl, hk⟩
        · intro vs yb wx hG hd hbp hbn K9 hK
          replace hK : ∀ (uu : Value) (w' : World), ((fun fl wx => Gu w1 fl wx K KP b b5 A c k x rs)) yb w' → (∀ j u, Nat.beq j 11 = false → (HT x.1.1 x.1.2 K rs k w1.heap.size) (([.v (.pointer (some ⟨b, 0, none⟩)), .v (.slice A k c), .v (.pointer (some ⟨b5, 0, none⟩)), .v (.slice x.2.1.1 x.1.1.length x.2.1.2), .cl, .v (.pointer (some ⟨b5, 1, none⟩)), .v (.slice x.2.2.1 x.1.2.length x.2.2.2), .ce, .ag, .li, .ap, .v (.pointer (some ⟨b, 0, none⟩)), .v undef] : List _).getD j (.v undef)) u wx → (HT x.1.1 x.1.2 K rs k w1.heap.size) (([.v (.pointer (some ⟨b, 0, none⟩)), .v (.slice A k c), .v (.pointer (some ⟨b5, 0, none⟩)), .v (.slice x.2.1.1 x.1.1.length x.2.1.2), .cl, .v (.pointer (some ⟨b5, 1, none⟩)), .v (.slice x.2.2.1 x.1.2.length x.2.2.2), .ce, .ag, .li, .ap, .v (.pointer (some ⟨b, 0, none⟩)), .v undef] : List _).getD j (.v undef)) u w') → (HT x.1.1 x.1.2 K rs k w1.heap.size) (.v (.pointer (some ⟨b, 0, none⟩))) uu w' → K9 _ w' := hK
          simp only [Act.put, List.setIfInBounds_toArray, List.set_cons_zero, List.set_cons_succ] at hK ⊢
          have HK := Lib.hid hK
          have HG := Lib.hid hG
          clear hK hd
          clear hG hbp hbn
          go_simp
          exact HK.out _ _ HG.out (fun _ _ _ h9 => h9) rfl
        · intro vs yb wx hG hd hbp hbn K9 hK
          obtain ⟨A10, d10, r9, e10, f10, r10⟩ : ∃ (A' : Option Addr) (c' : Nat) (r : Rz), vs 10 = .slice A' (k + 1) c' ∧ r.1 = x.1 ∧ Rh wx K (.slice A' (k + 1) c') (rs ++ [r]) := hd.get (j := 10) (by simp [depsOf, Region.binds])
          have e11 : vs 11 = .pointer (some ⟨b, 0, none⟩) := hd.get (j := 11) (by simp [depsOf, Region.binds])
          replace hK : ∀ (uu : Value) (w' : World), ((fun wx => ToldF w1 wx K b k x rs)) w' → K9 _ w' := hK
          simp only [Act.put, e10, e11] at hK ⊢
          have HK := Lib.hid hK
          have HG := Lib.hid hG
          clear hK hd e10 e11
          have hbx := HG.out.bx
          have q0 : wx.cell? ⟨b, 0, none⟩ = some (.slice A k c) := hbx.cell rfl
          have qf := hbx.fr 0
          have ql := hbx.lt
          have HF := Lib.hid (HG.out.fin hKb9.out f10 r10)
          clear hG hbx
          go_simp
          exact HK.out undef _ HF.out
      case hend =>
        intro vs wx hE
        obtain ⟨A9, c9, r9, e9, hb9, hr9, hbl9⟩ := hE
        have HB9 := Lib.hid hb9
        have HR9 := Lib.hid hr9
        have HL9 := Lib.hid (HB1.out.trans hbl9)
        have HM9 : Hid ((rs ++ [r9]).map Prod.fst = (l.map Prod.fst).take (k + 1)) := Lib.hid (by
          rw [List.map_append, HRM.out, ← List.map_take, ← List.map_take, List.take_succ_eq_append_getElem hlt, List.map_append]
          simp only [List.map_cons, List.map_nil, e9, HXL.out])
        have HN9 : Hid ((rs ++ [r9]).length = k + 1) := Lib.hid (by rw [List.length_append, hrk.out]; rfl)
        clear e9 hb9 hr9 hbl9
        go_wp2_with fail
        go_roundw
        case rel => exact ⟨k + 1, A9, c9, rs ++ [r9], by omega, by go_num, HB9.out, HR9.out, HM9.out, HN9.out, HL9.out⟩
        case measure => simp [intOf]; omega
    · obtain rfl : k = l.length := by omega
      have hml9 : (l.map Prod.fst).take l.length = l.map Prod.fst := by rw [List.take_of_length_le (by rw [List.length_map]; exact Nat.le_refl _)]
      rw [hml9] at hrm
      have hxa := HXA9.out wr hbl
      have a1 : wr.cell? ⟨w.heap.size, 1, none⟩ = some (.slice A2 m.length c2) := hxa.cell rfl
      have al := hxa.lt
      have HDP := Lib.hid (dpoints_any KP A2 m.length c2 m wr rfl (HPM.out.below (hbl.mono hKP1)) (by omega) hml HSN.out)
      have HBX := Lib.hid hbx
      have HRH := Lib.hid hrh
      have HRM := Lib.hid hrm
      have HBL := Lib.hid hbl
      clear hxa hbx hrh hrm hbl hml9
      go_wp2_with fail
      refine HDP.out.mono ?_
      rintro e w5 ⟨A5, c5, ns, rfl, hns, pw5, b5⟩
      have HB5 := Lib.hid (HBL.out.trans (b5.mono hKr))
      have hbx5 := HBX.out.below b5
      have n0 : w5.cell? ⟨b, 0, none⟩ = some (.slice A l.length c) := hbx5.cell rfl
      have n1 : w5.cell? ⟨b, 1, none⟩ = some (.slice none 0 0) := hbx5.cell rfl
      have nf := hbx5.fr
      have nl := hbx5.lt
      have hxr := HXR9.out w5 HB5.out
      have r0 : w5.cell? ⟨w.heap.size + 1, 0, none⟩ = some (.slice none 0 0) := hxr.cell rfl
      have r1 : w5.cell? ⟨w.heap.size + 1, 1, none⟩ = some (.slice none 0 0) := hxr.cell rfl
      have rf := hxr.fr
      have rl := hxr.lt
      have hne : w.heap.size + 1 ≠ b := by omega
      have hne2 : b ≠ w.heap.size + 1 := by omega
      have HBX5 := Lib.hid hbx5
      have HXR5 := Lib.hid hxr
      have HRH5 := Lib.hid (HRH.out.below b5)
      have HPW5 := Lib.hid (pw5.more (K' := K) (by omega))
      have HNS := Lib.hid hns
      clear pw5 b5 hbx5 hxr hns
      go_upto_region 8 with fail
      obtain ⟨W6, hW6⟩ : ∃ W6, W6 = w5.setCell ⟨b, 1, none⟩ (.slice A5 (m.map Prod.fst).length c5) := ⟨_, rfl⟩
      have HBX6 : Hid (Rwo W6 b (ceA A A5 l.length (m.map Prod.fst).length c c5) 42) := Lib.hid (by rw [hW6]; exact HBX5.out.set 1 _)
      have HXR6 : Hid (Rwo W6 (w.heap.size + 1) #[.slice none 0 0, .slice none 0 0] 42) := Lib.hid (by rw [hW6]; exact HXR5.out.other hne)
      have HRH6 : Hid (Rh W6 K (.slice A l.length c) rs) := Lib.hid (by rw [hW6]; exact HRH5.out.setK HBX5.out 1 _)
      have HPW6 : Hid (Pw W6 K 65 92 (.slice A5 (m.map Prod.fst).length c5) ns) := Lib.hid (by rw [hW6]; exact HPW5.out.setH HBX5.out 1 _)
      have HB6 : Hid (Below K W0 W6) := Lib.hid (by rw [hW6]; exact HB5.out.setCell hKb _)
      (try rw [← hW6])
      (try rw [List.length_map] at hW6)
      (try rw [← hW6])
      clear hW6 n0 n1 nf nl r0 r1 rf rl
      have n0 : W6.cell? ⟨b, 0, none⟩ = some (.slice A l.length c) := HBX6.out.cell rfl
      have n1 : W6.cell? ⟨b, 1, none⟩ = some (.slice A5 (m.map Prod.fst).length c5) := HBX6.out.cell rfl
      have nl := HBX6.out.lt
      have r0 : W6.cell? ⟨w.heap.size + 1, 0, none⟩ = some (.slice none 0 0) := HXR6.out.cell rfl
      have r1 : W6.cell? ⟨w.heap.size + 1, 1, none⟩ = some (.slice none 0 0) := HXR6.out.cell rfl
      have rf := HXR6.out.fr
      have rl := HXR6.out.lt
      go_wp2_with fail
      have s0 := (HXR6.out.set 0 (.slice A l.length c)).set 1 (.slice A5 (m.map Prod.fst).length c5)
      have t0 := s0.cell (i := 0) (v := .slice A l.length c) rfl
      have t1 := s0.cell (i := 1) (v := .slice A5 (m.map Prod.fst).length c5) rfl
      have hll : (l.map Prod.fst).length = l.length := List.length_map _
      exact bodyPost_ret (v := .agg #[.slice A l.length c, .slice A5 (m.map Prod.fst).length c5]) (by simp only [List.length_map] at t0 t1; simp [results, Tryz.results11, go_sem, t0, t1]) rfl ⟨A, A5, c, c5, rs, ns, by rw [hll], HRM.out, HNS.out, by rw [hll]; exact ((HRH6.out.setK HXR6.out 0 _).setK (HXR6.out.set 0 _) 1 _).more (by omega),
        ((HPW6.out.setH HXR6.out 0 _).setH (HXR6.out.set 0 _) 1 _).more (by omega), ((HB0.out.trans (HB6.out.mono (by omega))).setCell (p := ⟨w.heap.size + 1, 0, none⟩) (Nat.le_succ _) _).setCell (p := ⟨w.heap.size + 1, 1, none⟩) (Nat.le_succ _) _⟩
end Go.Proofs.YtcfbcidakddhfaaGreatDoor
