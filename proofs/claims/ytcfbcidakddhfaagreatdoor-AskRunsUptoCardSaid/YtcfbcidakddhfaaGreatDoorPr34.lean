/- The law's To and From of queries; SameQuery of one query and itself. -/
import Derived.Test.YtcfbcidakddhfaaGreatDoorPr33
namespace Go.Proofs.YtcfbcidakddhfaaGreatDoor
open Go.RowKit Go.BigFrame

theorem Rwo.set {w : World} {g : Nat} {cs : Array Value} {T : TypeId} (h : Rwo w g cs T) (i : Nat) (v : Value) : Rwo (w.setCell ⟨g, i, none⟩ v) g (cs.setIfInBounds i v) T := ⟨by
  have h1 := h.hp
  simp only [World.setCell]
  rw [Array.getElem?_modify, if_pos rfl, h1]
  rfl⟩
theorem Rwo.other {w : World} {g b o : Nat} {cs : Array Value} {T : TypeId} {v : Value} (h : Rwo w g cs T) (hn : g ≠ b) : Rwo (w.setCell ⟨b, o, none⟩ v) g cs T := ⟨by
  have h1 := h.hp
  simp only [World.setCell]
  rw [Array.getElem?_modify, if_neg (fun e => hn e.symm)]
  exact h1⟩
theorem Rwo.fr {w : World} {g : Nat} {cs : Array Value} {T : TypeId} (h : Rwo w g cs T) (j : Nat) : w.frozen? ⟨g, j, none⟩ = false := by
  unfold World.frozen?
  rw [h.hp]
  simp
/-- A value of the statement: known, the rules' slice, the query. -/
inductive Vq where
  | v (x : Value)
  | sl
  | ag
def Hq (q : Qr) (R : World → Value → List Rp → Prop) : Vq → Value → World → Prop
  | .v x, u, _ => u = x
  | .sl, u, wx => ∃ A c, u = .slice A q.rs.length c ∧ R wx (.slice A q.rs.length c) q.rs
  | .ag, u, wx => ∃ A c, u = qv q A c ∧ R wx (.slice A q.rs.length c) q.rs
theorem Hq.mono {wx wy : World} {q : Qr} {R : World → Value → List Rp → Prop} {p : Vq} {u : Value} (hR : ∀ {v l}, R wx v l → Below wx.heap.size wx wy → R wy v l) (h : Hq q R p u wx) (hb : Below wx.heap.size wx wy) : Hq q R p u wy := by
  cases p with
  | v x => exact h
  | sl => obtain ⟨A, c, e, r⟩ := h; exact ⟨A, c, e, hR r hb⟩
  | ag => obtain ⟨A, c, e, r⟩ := h; exact ⟨A, c, e, hR r hb⟩
/-- The box of a query and that of its image, seen from the world w. -/
structure Tz (w wx : World) (q : Qr) (A : Option Addr) (c K : Nat) (T1 T2 : TypeId) : Prop where
  bx : Rwo wx w.heap.size (qc q A c) T1
  by_ : Rwo wx (w.heap.size + 1) #[.int .i64 0, .slice none 0 0, .int .i64 0, .int .i64 0, .int .i64 0, .bool false] T2
  bl : Below w.heap.size w wx
  rr : Rr wx K A c q.rs
  hk : K ≤ w.heap.size
theorem Tz.below {w wx wy : World} {q : Qr} {A : Option Addr} {c K : Nat} {T1 T2 : TypeId} (h : Tz w wx q A c K T1 T2) (hb : Below wx.heap.size wx wy) : Tz w wy q A c K T1 T2 :=
  ⟨h.bx.below hb, h.by_.below hb, h.bl.trans (hb.mono h.bl.size), h.rr.below (hb.mono (Nat.le_trans h.hk h.bl.size)), h.hk⟩
theorem Tz.start {w : World} {q : Qr} {A : Option Addr} {c K : Nat} {T1 T2 : TypeId} (hr : Rr w K A c q.rs) (hK : K ≤ w.heap.size) :
    Tz w ((w.alloc (.cells (qc q A c) T1)).alloc (.cells #[.int .i64 0, .slice none 0 0, .int .i64 0, .int .i64 0, .int .i64 0, .bool false] T2)) q A c K T1 T2 := by
  have h1 : Rwo (w.alloc (.cells (qc q A c) T1)) w.heap.size (qc q A c) T1 := ⟨heap_alloc_new w _⟩
  have b1 : Below w.heap.size w (w.alloc (.cells (qc q A c) T1)) := (Below.refl _ _).alloc (Nat.le_refl _) _
  refine ⟨h1.below ((Below.refl _ _).alloc (Nat.le_refl _) _), ⟨?_⟩, b1.alloc b1.size _, (hr.alloc hK _).alloc (Nat.le_trans hK b1.size) _, hK⟩
  have h2 := heap_alloc_new (w.alloc (.cells (qc q A c) T1)) (.cells #[.int .i64 0, .slice none 0 0, .int .i64 0, .int .i64 0, .int .i64 0, .bool false] T2)
  simpa using h2
theorem grown_set (w : World) (b o : Nat) (v : Value) : w.grownBy (w.setCell ⟨b, o, none⟩ v) (some b) := ⟨rfl, rfl, rfl, by simp [World.setCell], fun k _ hn => by
  simp only [World.setCell]
  rw [Array.getElem?_modify, if_neg (fun e => hn (by rw [e]))]⟩
theorem So.setC {w : World} {K b o : Nat} {T : TypeId} {v u : Value} {l : List Rp} (h : So encR 3 w K T v l) (hn : v.ownBlock ≠ some b) : So encR 3 (w.setCell ⟨b, o, none⟩ u) K T v l :=
  World.ownsRow.kept h (grown_set w b o u) (.inr hn)
/-- A row of rules is none of the boxes' blocks. -/
theorem Tz.ne {w wx : World} {q : Qr} {A A9 : Option Addr} {c c9 n K K9 : Nat} {T1 T2 T3 : TypeId} {l : List Rp} (h : Tz w wx q A c K T1 T2) (hr : So encR 3 wx K9 T3 (.slice A9 n c9) l) (hT : T3 ≠ T2) : (Value.slice A9 n c9).ownBlock ≠ some (w.heap.size + 1) := fun hk => by
  rcases hr.2 with ⟨e, _⟩ | ⟨g, cap, cur, e, hg, hh, _⟩
  · rw [e] at hk; cases hk
  · rw [e] at hk
    cases hk
    have := h.by_.hp
    rw [hh] at this
    injection this with this
    injection this with _ e2 _
    exact hT e2
set_option maxRecDepth 100000 in
set_option maxHeartbeats 6400000 in
theorem toQ_any {q : Qr} {A : Option Addr} {c K0 : Nat} (w : World) (hr : Rr w K0 A c q.rs) (hK : K0 ≤ w.heap.size) (hl : q.rs.length ≤ 1048576) :
    Calls Tryz.prog 6 #[qv q A c] w fun e w' => ∃ A' c', e = .returned (qv q A' c') ∧ Ra w' w.heap.size (.slice A' q.rs.length c') q.rs ∧ Below w.heap.size w w' := by
  have HCT : Hid (∀ wx, Tz w wx q A c K0 24 36 → Calls Tryz.prog 18 #[.slice A q.rs.length c] wx (NewR wx q.rs)) := Lib.hid fun wx h => toR_any K0 A q.rs.length c q.rs wx rfl h.rr (Nat.le_trans h.hk h.bl.size) (by omega)
  have HTB : Hid (Tz w ((w.alloc (.cells (qc q A c) 24)).alloc (.cells #[.int .i64 0, .slice none 0 0, .int .i64 0, .int .i64 0, .int .i64 0, .bool false] 36)) q A c K0 24 36) := Lib.hid (Tz.start hr hK)
  clear hr hK hl
  go_enter Tryz.func6, Tryz.ntmps6
  go_upto_region 1 with fail
  generalize (w.alloc (.cells (qc q A c) 24)).alloc (.cells #[.int .i64 0, .slice none 0 0, .int .i64 0, .int .i64 0, .int .i64 0, .bool false] 36) = w1 at HTB ⊢
  apply region_VS (Hq q (Ra · w.heap.size)) (fun wx => Tz w wx q A c K0 24 36) (fun w' => ∃ A' c', Rwo w' (w.heap.size + 1) (qc q A' c') 36 ∧ Ra w' w.heap.size (.slice A' q.rs.length c') q.rs ∧ Below w.heap.size w w') 14 [.v (.pointer (some ⟨w.heap.size, 0, none⟩)), .v (.int .i64 q.op), .v (.pointer (some ⟨w.heap.size, 1, none⟩)), .v (.slice A q.rs.length c), .sl, .v (.pointer (some ⟨w.heap.size, 2, none⟩)), .v (.int .i64 q.fr), .v (.pointer (some ⟨w.heap.size, 3, none⟩)), .v (.int .i64 q.to_), .v (.pointer (some ⟨w.heap.size, 4, none⟩)), .v (.int .i64 q.st), .v (.pointer (some ⟨w.heap.size, 5, none⟩)), .v (.bool q.nt), .ag, .v undef] (.v undef)
  case mono => exact fun p v w0 w1 h hb => Hq.mono (fun h hb => So.below h hb) h hb
  case hl => kernel_rfl
  case hm => kernel_rfl
  case hf => kernel_rfl
  case hQ => exact (by intro c x y w e h; exact And.intro (e.symm.trans (And.left h)) (And.right h))
  case hF => intro vs; simp only [putAll, Act.put, List.setIfInBounds_toArray, List.set_cons_zero, List.set_cons_succ, Nat.reduceAdd]; rfl
  case h0 => exact HTB.out.below ⟨rfl, rfl, rfl, Nat.le_refl _, fun _ _ => rfl⟩
  case hstep =>
    repeat' (first | exact AllOps.nil | apply AllOps.cons)
    · intro vs wx hG hd K hK
      replace hK : ∀ (uu : Value) (w' : World), Below wx.heap.size wx w' → ((fun wx => Tz w wx q A c K0 24 36)) w' → (Hq q (Ra · w.heap.size)) (.v (.pointer (some ⟨w.heap.size, 0, none⟩))) uu w' → K _ w' := hK
      simp only [Act.put, List.setIfInBounds_toArray, List.set_cons_zero, List.set_cons_succ] at hK ⊢
      have HK := Lib.hid hK
      have HG := Lib.hid hG
      clear hK hd
      clear hG
      go_simp
      exact HK.out _ _ (Below.refl _ _) HG.out rfl
    · intro vs wx hG hd K hK
      have e0 : vs 0 = .pointer (some ⟨w.heap.size, 0, none⟩) := hd.get (j := 0) (by simp [depsOf, Region.binds])
      replace hK : ∀ (uu : Value) (w' : World), Below wx.heap.size wx w' → ((fun wx => Tz w wx q A c K0 24 36)) w' → (Hq q (Ra · w.heap.size)) (.v (.int .i64 q.op)) uu w' → K _ w' := hK
      simp only [Act.put, List.setIfInBounds_toArray, List.set_cons_zero, List.set_cons_succ, e0] at hK ⊢
      have HK := Lib.hid hK
      have HG := Lib.hid hG
      clear hK hd e0
      have X := HG.out.bx
      have x0 : wx.cell? ⟨w.heap.size, 0, none⟩ = some (.int .i64 q.op) := X.cell rfl
      have x1 : wx.cell? ⟨w.heap.size, 1, none⟩ = some (.slice A q.rs.length c) := X.cell rfl
      have x2 : wx.cell? ⟨w.heap.size, 2, none⟩ = some (.int .i64 q.fr) := X.cell rfl
      have x3 : wx.cell? ⟨w.heap.size, 3, none⟩ = some (.int .i64 q.to_) := X.cell rfl
      have x4 : wx.cell? ⟨w.heap.size, 4, none⟩ = some (.int .i64 q.st) := X.cell rfl
      have x5 : wx.cell? ⟨w.heap.size, 5, none⟩ = some (.bool q.nt) := X.cell rfl
      have xl := X.lt
      clear X hG
      go_simp
      exact HK.out _ _ (Below.refl _ _) HG.out rfl
    · intro vs wx hG hd K hK
      replace hK : ∀ (uu : Value) (w' : World), Below wx.heap.size wx w' → ((fun wx => Tz w wx q A c K0 24 36)) w' → (Hq q (Ra · w.heap.size)) (.v (.pointer (some ⟨w.heap.size, 1, none⟩))) uu w' → K _ w' := hK
      simp only [Act.put, List.setIfInBounds_toArray, List.set_cons_zero, List.set_cons_succ] at hK ⊢
      have HK := Lib.hid hK
      have HG := Lib.hid hG
      clear hK hd
      clear hG
      go_simp
      exact HK.out _ _ (Below.refl _ _) HG.out rfl
    · intro vs wx hG hd K hK
      have e2 : vs 2 = .pointer (some ⟨w.heap.size, 1, none⟩) := hd.get (j := 2) (by simp [depsOf, Region.binds])
      replace hK : ∀ (uu : Value) (w' : World), Below wx.heap.size wx w' → ((fun wx => Tz w wx q A c K0 24 36)) w' → (Hq q (Ra · w.heap.size)) (.v (.slice A q.rs.length c)) uu w' → K _ w' := hK
      simp only [Act.put, List.setIfInBounds_toArray, List.set_cons_zero, List.set_cons_succ, e2] at hK ⊢
      have HK := Lib.hid hK
      have HG := Lib.hid hG
      clear hK hd e2
      have X := HG.out.bx
      have x0 : wx.cell? ⟨w.heap.size, 0, none⟩ = some (.int .i64 q.op) := X.cell rfl
      have x1 : wx.cell? ⟨w.heap.size, 1, none⟩ = some (.slice A q.rs.length c) := X.cell rfl
      have x2 : wx.cell? ⟨w.heap.size, 2, none⟩ = some (.int .i64 q.fr) := X.cell rfl
      have x3 : wx.cell? ⟨w.heap.size, 3, none⟩ = some (.int .i64 q.to_) := X.cell rfl
      have x4 : wx.cell? ⟨w.heap.size, 4, none⟩ = some (.int .i64 q.st) := X.cell rfl
      have x5 : wx.cell? ⟨w.heap.size, 5, none⟩ = some (.bool q.nt) := X.cell rfl
      have xl := X.lt
      clear X hG
      go_simp
      exact HK.out _ _ (Below.refl _ _) HG.out rfl
    · intro vs wx hG hd K hK
      have e3 : vs 3 = .slice A q.rs.length c := hd.get (j := 3) (by simp [depsOf, Region.binds])
      replace hK : ∀ (uu : Value) (w' : World), Below wx.heap.size wx w' → ((fun wx => Tz w wx q A c K0 24 36)) w' → (Hq q (Ra · w.heap.size)) (.sl) uu w' → K _ w' := hK
      simp only [Act.put, List.setIfInBounds_toArray, List.set_cons_zero, List.set_cons_succ, e3] at hK ⊢
      have HK := Lib.hid hK
      have HG := Lib.hid hG
      clear hK hd e3
      clear hG
      go_simp
      go_at_call 18
      refine (HCT.out wx HG.out).mono ?_
      rintro e w9 ⟨A9, c9, rfl, h9, hb⟩
      exact HK.out _ _ hb (HG.out.below hb) ⟨A9, c9, rfl, h9.more HG.out.bl.size⟩
    · intro vs wx hG hd K hK
      replace hK : ∀ (uu : Value) (w' : World), Below wx.heap.size wx w' → ((fun wx => Tz w wx q A c K0 24 36)) w' → (Hq q (Ra · w.heap.size)) (.v (.pointer (some ⟨w.heap.size, 2, none⟩))) uu w' → K _ w' := hK
      simp only [Act.put, List.setIfInBounds_toArray, List.set_cons_zero, List.set_cons_succ] at hK ⊢
      have HK := Lib.hid hK
      have HG := Lib.hid hG
      clear hK hd
      clear hG
      go_simp
      exact HK.out _ _ (Below.refl _ _) HG.out rfl
    · intro vs wx hG hd K hK
      have e5 : vs 5 = .pointer (some ⟨w.heap.size, 2, none⟩) := hd.get (j := 5) (by simp [depsOf, Region.binds])
      replace hK : ∀ (uu : Value) (w' : World), Below wx.heap.size wx w' → ((fun wx => Tz w wx q A c K0 24 36)) w' → (Hq q (Ra · w.heap.size)) (.v (.int .i64 q.fr)) uu w' → K _ w' := hK
      simp only [Act.put, List.setIfInBounds_toArray, List.set_cons_zero, List.set_cons_succ, e5] at hK ⊢
      have HK := Lib.hid hK
      have HG := Lib.hid hG
      clear hK hd e5
      have X := HG.out.bx
      have x0 : wx.cell? ⟨w.heap.size, 0, none⟩ = some (.int .i64 q.op) := X.cell rfl
      have x1 : wx.cell? ⟨w.heap.size, 1, none⟩ = some (.slice A q.rs.length c) := X.cell rfl
      have x2 : wx.cell? ⟨w.heap.size, 2, none⟩ = some (.int .i64 q.fr) := X.cell rfl
      have x3 : wx.cell? ⟨w.heap.size, 3, none⟩ = some (.int .i64 q.to_) := X.cell rfl
      have x4 : wx.cell? ⟨w.heap.size, 4, none⟩ = some (.int .i64 q.st) := X.cell rfl
      have x5 : wx.cell? ⟨w.heap.size, 5, none⟩ = some (.bool q.nt) := X.cell rfl
      have xl := X.lt
      clear X hG
      go_simp
      exact HK.out _ _ (Below.refl _ _) HG.out rfl
    · intro vs wx hG hd K hK
      replace hK : ∀ (uu : Value) (w' : World), Below wx.heap.size wx w' → ((fun wx => Tz w wx q A c K0 24 36)) w' → (Hq q (Ra · w.heap.size)) (.v (.pointer (some ⟨w.heap.size, 3, none⟩))) uu w' → K _ w' := hK
      simp only [Act.put, List.setIfInBounds_toArray, List.set_cons_zero, List.set_cons_succ] at hK ⊢
      have HK := Lib.hid hK
      have HG := Lib.hid hG
      clear hK hd
      clear hG
      go_simp
      exact HK.out _ _ (Below.refl _ _) HG.out rfl
    · intro vs wx hG hd K hK
      have e7 : vs 7 = .pointer (some ⟨w.heap.size, 3, none⟩) := hd.get (j := 7) (by simp [depsOf, Region.binds])
      replace hK : ∀ (uu : Value) (w' : World), Below wx.heap.size wx w' → ((fun wx => Tz w wx q A c K0 24 36)) w' → (Hq q (Ra · w.heap.size)) (.v (.int .i64 q.to_)) uu w' → K _ w' := hK
      simp only [Act.put, List.setIfInBounds_toArray, List.set_cons_zero, List.set_cons_succ, e7] at hK ⊢
      have HK := Lib.hid hK
      have HG := Lib.hid hG
      clear hK hd e7
      have X := HG.out.bx
      have x0 : wx.cell? ⟨w.heap.size, 0, none⟩ = some (.int .i64 q.op) := X.cell rfl
      have x1 : wx.cell? ⟨w.heap.size, 1, none⟩ = some (.slice A q.rs.length c) := X.cell rfl
      have x2 : wx.cell? ⟨w.heap.size, 2, none⟩ = some (.int .i64 q.fr) := X.cell rfl
      have x3 : wx.cell? ⟨w.heap.size, 3, none⟩ = some (.int .i64 q.to_) := X.cell rfl
      have x4 : wx.cell? ⟨w.heap.size, 4, none⟩ = some (.int .i64 q.st) := X.cell rfl
      have x5 : wx.cell? ⟨w.heap.size, 5, none⟩ = some (.bool q.nt) := X.cell rfl
      have xl := X.lt
      clear X hG
      go_simp
      exact HK.out _ _ (Below.refl _ _) HG.out rfl
    · intro vs wx hG hd K hK
      replace hK : ∀ (uu : Value) (w' : World), Below wx.heap.size wx w' → ((fun wx => Tz w wx q A c K0 24 36)) w' → (Hq q (Ra · w.heap.size)) (.v (.pointer (some ⟨w.heap.size, 4, none⟩))) uu w' → K _ w' := hK
      simp only [Act.put, List.setIfInBounds_toArray, List.set_cons_zero, List.set_cons_succ] at hK ⊢
      have HK := Lib.hid hK
      have HG := Lib.hid hG
      clear hK hd
      clear hG
      go_simp
      exact HK.out _ _ (Below.refl _ _) HG.out rfl
    · intro vs wx hG hd K hK
      have e9 : vs 9 = .pointer (some ⟨w.heap.size, 4, none⟩) := hd.get (j := 9) (by simp [depsOf, Region.binds])
      replace hK : ∀ (uu : Value) (w' : World), Below wx.heap.size wx w' → ((fun wx => Tz w wx q A c K0 24 36)) w' → (Hq q (Ra · w.heap.size)) (.v (.int .i64 q.st)) uu w' → K _ w' := hK
      simp only [Act.put, List.setIfInBounds_toArray, List.set_cons_zero, List.set_cons_succ, e9] at hK ⊢
      have HK := Lib.hid hK
      have HG := Lib.hid hG
      clear hK hd e9
      have X := HG.out.bx
      have x0 : wx.cell? ⟨w.heap.size, 0, none⟩ = some (.int .i64 q.op) := X.cell rfl
      have x1 : wx.cell? ⟨w.heap.size, 1, none⟩ = some (.slice A q.rs.length c) := X.cell rfl
      have x2 : wx.cell? ⟨w.heap.size, 2, none⟩ = some (.int .i64 q.fr) := X.cell rfl
      have x3 : wx.cell? ⟨w.heap.size, 3, none⟩ = some (.int .i64 q.to_) := X.cell rfl
      have x4 : wx.cell? ⟨w.heap.size, 4, none⟩ = some (.int .i64 q.st) := X.cell rfl
      have x5 : wx.cell? ⟨w.heap.size, 5, none⟩ = some (.bool q.nt) := X.cell rfl
      have xl := X.lt
      clear X hG
      go_simp
      exact HK.out _ _ (Below.refl _ _) HG.out rfl
    · intro vs wx hG hd K hK
      replace hK : ∀ (uu : Value) (w' : World), Below wx.heap.size wx w' → ((fun wx => Tz w wx q A c K0 24 36)) w' → (Hq q (Ra · w.heap.size)) (.v (.pointer (some ⟨w.heap.size, 5, none⟩))) uu w' → K _ w' := hK
      simp only [Act.put, List.setIfInBounds_toArray, List.set_cons_zero, List.set_cons_succ] at hK ⊢
      have HK := Lib.hid hK
      have HG := Lib.hid hG
      clear hK hd
      clear hG
      go_simp
      exact HK.out _ _ (Below.refl _ _) HG.out rfl
    · intro vs wx hG hd K hK
      have e11 : vs 11 = .pointer (some ⟨w.heap.size, 5, none⟩) := hd.get (j := 11) (by simp [depsOf, Region.binds])
      replace hK : ∀ (uu : Value) (w' : World), Below wx.heap.size wx w' → ((fun wx => Tz w wx q A c K0 24 36)) w' → (Hq q (Ra · w.heap.size)) (.v (.bool q.nt)) uu w' → K _ w' := hK
      simp only [Act.put, List.setIfInBounds_toArray, List.set_cons_zero, List.set_cons_succ, e11] at hK ⊢
      have HK := Lib.hid hK
      have HG := Lib.hid hG
      clear hK hd e11
      have X := HG.out.bx
      have x0 : wx.cell? ⟨w.heap.size, 0, none⟩ = some (.int .i64 q.op) := X.cell rfl
      have x1 : wx.cell? ⟨w.heap.size, 1, none⟩ = some (.slice A q.rs.length c) := X.cell rfl
      have x2 : wx.cell? ⟨w.heap.size, 2, none⟩ = some (.int .i64 q.fr) := X.cell rfl
      have x3 : wx.cell? ⟨w.heap.size, 3, none⟩ = some (.int .i64 q.to_) := X.cell rfl
      have x4 : wx.cell? ⟨w.heap.size, 4, none⟩ = some (.int .i64 q.st) := X.cell rfl
      have x5 : wx.cell? ⟨w.heap.size, 5, none⟩ = some (.bool q.nt) := X.cell rfl
      have xl := X.lt
      clear X hG
      go_simp
      exact HK.out _ _ (Below.refl _ _) HG.out rfl
    · intro vs wx hG hd K hK
      have e1 : vs 1 = .int .i64 q.op := hd.get (j := 1) (by simp [depsOf, Region.binds])
      obtain ⟨A4, c4, e4, r4⟩ : ∃ A' c', vs 4 = .slice A' q.rs.length c' ∧ Ra wx w.heap.size (.slice A' q.rs.length c') q.rs := hd.get (j := 4) (by simp [depsOf, Region.binds])
      have e6 : vs 6 = .int .i64 q.fr := hd.get (j := 6) (by simp [depsOf, Region.binds])
      have e8 : vs 8 = .int .i64 q.to_ := hd.get (j := 8) (by simp [depsOf, Region.binds])
      have e10 : vs 10 = .int .i64 q.st := hd.get (j := 10) (by simp [depsOf, Region.binds])
      have e12 : vs 12 = .bool q.nt := hd.get (j := 12) (by simp [depsOf, Region.binds])
      replace hK : ∀ (uu : Value) (w' : World), Below wx.heap.size wx w' → ((fun wx => Tz w wx q A c K0 24 36)) w' → (Hq q (Ra · w.heap.size)) (.ag) uu w' → K _ w' := hK
      simp only [Act.put, List.setIfInBounds_toArray, List.set_cons_zero, List.set_cons_succ, e1, e4, e6, e8, e10, e12] at hK ⊢
      have HK := Lib.hid hK
      have HG := Lib.hid hG
      clear hK hd e1 e4 e6 e8 e10 e12
      clear hG
      go_simp
      exact HK.out _ _ (Below.refl _ _) HG.out ⟨_, _, rfl, r4⟩
    · intro vs wx hG hd K hK
      obtain ⟨A13, c13, e13, r13⟩ : ∃ A' c', vs 13 = qv q A' c' ∧ Ra wx w.heap.size (.slice A' q.rs.length c') q.rs := hd.get (j := 13) (by simp [depsOf, Region.binds])
      replace hK : ∀ (uu : Value) (w' : World), (fun w' => ∃ A' c', Rwo w' (w.heap.size + 1) (qc q A' c') 36 ∧ Ra w' w.heap.size (.slice A' q.rs.length c') q.rs ∧ Below w.heap.size w w') w' → K _ w' := hK
      simp only [Act.put, e13] at hK ⊢
      have HK := Lib.hid hK
      have HG := Lib.hid hG
      clear hK hd e13
      have Y := HG.out.by_
      have y0 : wx.cell? ⟨w.heap.size + 1, 0, none⟩ = some (.int .i64 0) := Y.cell rfl
      have y1 : wx.cell? ⟨w.heap.size + 1, 1, none⟩ = some (.slice none 0 0) := Y.cell rfl
      have y2 : wx.cell? ⟨w.heap.size + 1, 2, none⟩ = some (.int .i64 0) := Y.cell rfl
      have y3 : wx.cell? ⟨w.heap.size + 1, 3, none⟩ = some (.int .i64 0) := Y.cell rfl
      have y4 : wx.cell? ⟨w.heap.size + 1, 4, none⟩ = some (.int .i64 0) := Y.cell rfl
      have y5 : wx.cell? ⟨w.heap.size + 1, 5, none⟩ = some (.bool false) := Y.cell rfl
      have yf := Y.fr
      have yl := Y.lt
      clear Y hG
      go_simp
      refine HK.out undef _ ⟨A13, c13, ?_, ?_, ?_⟩
      · exact (((((HG.out.by_.set 0 _).set 1 _).set 2 _).set 3 _).set 4 _).set 5 _
      · have hn := HG.out.ne r13 (by decide)
        exact (((((So.setC (So.setC (So.setC (So.setC (So.setC (So.setC r13 hn) hn) hn) hn) hn) hn)))))
      · exact (((((HG.out.bl.setCell (p := ⟨w.heap.size + 1, 0, none⟩) (Nat.le_succ _) _).setCell (p := ⟨w.heap.size + 1, 1, none⟩) (Nat.le_succ _) _).setCell (p := ⟨w.heap.size + 1, 2, none⟩) (Nat.le_succ _) _).setCell (p := ⟨w.heap.size + 1, 3, none⟩) (Nat.le_succ _) _).setCell (p := ⟨w.heap.size + 1, 4, none⟩) (Nat.le_succ _) _).setCell (p := ⟨w.heap.size + 1, 5, none⟩) (Nat.le_succ _) _
  case hend =>
    intro vs wx hE
    obtain ⟨A9, c9, hx, hr, hb⟩ := hE
    have x0 : wx.cell? ⟨w.heap.size + 1, 0, none⟩ = some (.int .i64 q.op) := hx.cell rfl
    have x1 : wx.cell? ⟨w.heap.size + 1, 1, none⟩ = some (.slice A9 q.rs.length c9) := hx.cell rfl
    have x2 : wx.cell? ⟨w.heap.size + 1, 2, none⟩ = some (.int .i64 q.fr) := hx.cell rfl
    have x3 : wx.cell? ⟨w.heap.size + 1, 3, none⟩ = some (.int .i64 q.to_) := hx.cell rfl
    have x4 : wx.cell? ⟨w.heap.size + 1, 4, none⟩ = some (.int .i64 q.st) := hx.cell rfl
    have x5 : wx.cell? ⟨w.heap.size + 1, 5, none⟩ = some (.bool q.nt) := hx.cell rfl
    have xl := hx.lt
    have HR := Lib.hid hr
    have HB := Lib.hid hb
    clear hr hb
    go_wp2_with fail
    exact bodyPost_ret (v := qv q A9 c9) (by simp [results, Tryz.results6, go_sem, x0, x1, x2, x3, x4, x5]) rfl ⟨A9, c9, rfl, HR.out, HB.out⟩
end Go.Proofs.YtcfbcidakddhfaaGreatDoor
