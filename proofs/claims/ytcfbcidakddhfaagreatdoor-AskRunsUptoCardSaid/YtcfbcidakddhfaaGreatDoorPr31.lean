/- What a query tells of two lists behind one another. -/
import Derived.Test.YtcfbcidakddhfaaGreatDoorPr30
import Derived.Deep.QuietTactic
namespace Go.Proofs.YtcfbcidakddhfaaGreatDoor
open Go.RowKit Go.BigFrame

/-- A value of the statement: known, or a new slice that holds these cells. -/
def Pn (w : World) : Value ⊕ Array Value → Value → World → Prop
  | .inl x, u, _ => u = x
  | .inr l, u, wx => ∃ g, u = .slice (some ⟨g, 0, none⟩) l.size l.size ∧ w.heap.size ≤ g ∧ Rwo wx g l 137
theorem Pn.mono {w wx wy : World} {p : Value ⊕ Array Value} {u : Value} (h : Pn w p u wx) (hb : Below wx.heap.size wx wy) : Pn w p u wy := by
  cases p with
  | inl x => exact h
  | inr l =>
    obtain ⟨g, e, z, hr⟩ := h
    exact ⟨g, e, z, hr.below hb⟩
def ptrsQ (b : Nat) (op : Int) : Array Value := if op = 0 then #[.pointer (some ⟨b, 2, none⟩), .pointer (some ⟨b, 3, none⟩)] else #[.pointer (some ⟨b, 2, none⟩), .pointer (some ⟨b, 3, none⟩), .pointer (some ⟨b, 4, none⟩)]
set_option maxRecDepth 100000 in
set_option maxHeartbeats 3200000 in
theorem numbersOf_any (b : Nat) (op : Int) (w : World) (x0 : w.cell? ⟨b, 0, none⟩ = some (.int .i64 op)) :
    Calls Tryz.prog 59 #[.pointer (some ⟨b, 0, none⟩)] w fun e w' => ∃ g, e = .returned (.slice (some ⟨g, 0, none⟩) (ptrsQ b op).size (ptrsQ b op).size) ∧ Below w.heap.size w w' ∧ w.heap.size ≤ g ∧ Rwo w' g (ptrsQ b op) 137 := by
  by_cases h0 : op = 0
  · have e0 : (op == (0 : Int)) = true := by simpa using h0
    have e : ptrsQ b op = #[.pointer (some ⟨b, 2, none⟩), .pointer (some ⟨b, 3, none⟩)] := if_pos h0
    rw [e]
    clear h0 e
    go_enter Tryz.func59, Tryz.ntmps59
    go_wp2_with fail
    apply region_V (Pn w) (Below w.heap.size w) [.inl (.pointer (some ⟨b, 0, none⟩)), .inl (.pointer (some ⟨b, 0, none⟩)), .inl (.pointer (some ⟨b, 2, none⟩)), .inl (.pointer (some ⟨b, 0, none⟩)), .inl (.pointer (some ⟨b, 0, none⟩)), .inl (.pointer (some ⟨b, 3, none⟩)), .inr #[.pointer (some ⟨b, 2, none⟩), .pointer (some ⟨b, 3, none⟩)], .inr #[.pointer (some ⟨b, 2, none⟩), .pointer (some ⟨b, 3, none⟩)]] (.inl undef)
    case mono => exact fun p v w0 w1 h hb => Pn.mono h hb
    case hm => kernel_rfl
    case hf => kernel_rfl
    case hQ => exact (by intro c x y w e h; exact And.intro (e.symm.trans (And.left h)) (And.right h))
    case hF => intro vs; simp only [putAll, Act.put, List.setIfInBounds_toArray, List.set_cons_zero, List.set_cons_succ, Nat.reduceAdd]; rfl
    case h0 => exact ⟨rfl, rfl, rfl, Nat.le_refl _, fun _ _ => rfl⟩
    case hstep =>
      repeat' (first | exact AllOps.nil | apply AllOps.cons)
      · intro vs wx hG hd K hK
        replace hK : ∀ (uu : Value) (w' : World), Below wx.heap.size wx w' → ((Below w.heap.size w)) w' → (Pn w) (.inl (.pointer (some ⟨b, 0, none⟩))) uu w' → K _ w' := hK
        simp only [Act.put, List.setIfInBounds_toArray, List.set_cons_zero, List.set_cons_succ] at hK ⊢
        have HK := Lib.hid hK
        have HG := Lib.hid hG
        clear hK hd
        clear hG
        go_simp
        exact HK.out _ _ (Below.refl _ _) HG.out rfl
      · intro vs wx hG hd K hK
        have e0 : vs 0 = .pointer (some ⟨b, 0, none⟩) := hd.get (j := 0) (by simp [depsOf, Region.binds])
        replace hK : ∀ (uu : Value) (w' : World), Below wx.heap.size wx w' → ((Below w.heap.size w)) w' → (Pn w) (.inl (.pointer (some ⟨b, 0, none⟩))) uu w' → K _ w' := hK
        simp only [Act.put, List.setIfInBounds_toArray, List.set_cons_zero, List.set_cons_succ, e0] at hK ⊢
        have HK := Lib.hid hK
        have HG := Lib.hid hG
        clear hK hd e0
        clear hG
        go_simp
        exact HK.out _ _ (Below.refl _ _) HG.out rfl
      · intro vs wx hG hd K hK
        have e1 : vs 1 = .pointer (some ⟨b, 0, none⟩) := hd.get (j := 1) (by simp [depsOf, Region.binds])
        replace hK : ∀ (uu : Value) (w' : World), Below wx.heap.size wx w' → ((Below w.heap.size w)) w' → (Pn w) (.inl (.pointer (some ⟨b, 2, none⟩))) uu w' → K _ w' := hK
        simp only [Act.put, List.setIfInBounds_toArray, List.set_cons_zero, List.set_cons_succ, e1] at hK ⊢
        have HK := Lib.hid hK
        have HG := Lib.hid hG
        clear hK hd e1
        clear hG
        go_simp
        exact HK.out _ _ (Below.refl _ _) HG.out rfl
      · intro vs wx hG hd K hK
        replace hK : ∀ (uu : Value) (w' : World), Below wx.heap.size wx w' → ((Below w.heap.size w)) w' → (Pn w) (.inl (.pointer (some ⟨b, 0, none⟩))) uu w' → K _ w' := hK
        simp only [Act.put, List.setIfInBounds_toArray, List.set_cons_zero, List.set_cons_succ] at hK ⊢
        have HK := Lib.hid hK
        have HG := Lib.hid hG
        clear hK hd
        clear hG
        go_simp
        exact HK.out _ _ (Below.refl _ _) HG.out rfl
      · intro vs wx hG hd K hK
        have e3 : vs 3 = .pointer (some ⟨b, 0, none⟩) := hd.get (j := 3) (by simp [depsOf, Region.binds])
        replace hK : ∀ (uu : Value) (w' : World), Below wx.heap.size wx w' → ((Below w.heap.size w)) w' → (Pn w) (.inl (.pointer (some ⟨b, 0, none⟩))) uu w' → K _ w' := hK
        simp only [Act.put, List.setIfInBounds_toArray, List.set_cons_zero, List.set_cons_succ, e3] at hK ⊢
        have HK := Lib.hid hK
        have HG := Lib.hid hG
        clear hK hd e3
        clear hG
        go_simp
        exact HK.out _ _ (Below.refl _ _) HG.out rfl
      · intro vs wx hG hd K hK
        have e4 : vs 4 = .pointer (some ⟨b, 0, none⟩) := hd.get (j := 4) (by simp [depsOf, Region.binds])
        replace hK : ∀ (uu : Value) (w' : World), Below wx.heap.size wx w' → ((Below w.heap.size w)) w' → (Pn w) (.inl (.pointer (some ⟨b, 3, none⟩))) uu w' → K _ w' := hK
        simp only [Act.put, List.setIfInBounds_toArray, List.set_cons_zero, List.set_cons_succ, e4] at hK ⊢
        have HK := Lib.hid hK
        have HG := Lib.hid hG
        clear hK hd e4
        clear hG
        go_simp
        exact HK.out _ _ (Below.refl _ _) HG.out rfl
      · intro vs wx hG hd K hK
        have e2 : vs 2 = .pointer (some ⟨b, 2, none⟩) := hd.get (j := 2) (by simp [depsOf, Region.binds])
        have e5 : vs 5 = .pointer (some ⟨b, 3, none⟩) := hd.get (j := 5) (by simp [depsOf, Region.binds])
        replace hK : ∀ (uu : Value) (w' : World), Below wx.heap.size wx w' → ((Below w.heap.size w)) w' → (Pn w) (.inr #[.pointer (some ⟨b, 2, none⟩), .pointer (some ⟨b, 3, none⟩)]) uu w' → K _ w' := hK
        simp only [Act.put, List.setIfInBounds_toArray, List.set_cons_zero, List.set_cons_succ, e2, e5] at hK ⊢
        have HK := Lib.hid hK
        have HG := Lib.hid hG
        clear hK hd e2 e5
        clear hG
        go_simp
        exact HK.out _ _ ((Below.refl _ _).alloc (Nat.le_refl _) _) (HG.out.alloc HG.out.size _) ⟨wx.heap.size, rfl, HG.out.size, ⟨heap_alloc_new wx _⟩⟩
      · intro vs wx hG hd K hK
        obtain ⟨g, e6, z, hr⟩ : ∃ g, vs 6 = .slice (some ⟨g, 0, none⟩) 2 2 ∧ w.heap.size ≤ g ∧ Rwo wx g #[.pointer (some ⟨b, 2, none⟩), .pointer (some ⟨b, 3, none⟩)] 137 := hd.get (j := 6) (by simp [depsOf, Region.binds])
        replace hK : ∀ (uu : Value) (w' : World), Below wx.heap.size wx w' → ((Below w.heap.size w)) w' → (Pn w) (.inr #[.pointer (some ⟨b, 2, none⟩), .pointer (some ⟨b, 3, none⟩)]) uu w' → K _ w' := hK
        simp only [Act.put, List.setIfInBounds_toArray, List.set_cons_zero, List.set_cons_succ, e6] at hK ⊢
        have HK := Lib.hid hK
        have HG := Lib.hid hG
        clear hK hd e6
        clear hG
        go_simp
        exact HK.out _ _ (Below.refl _ _) HG.out ⟨g, rfl, z, hr⟩
    case hend =>
      intro vs wx hG hv
      obtain ⟨g, e9, z, hr⟩ : ∃ g, vs 7 = .slice (some ⟨g, 0, none⟩) 2 2 ∧ w.heap.size ≤ g ∧ Rwo wx g #[.pointer (some ⟨b, 2, none⟩), .pointer (some ⟨b, 3, none⟩)] 137 := hv 7 (by decide)
      rw [e9]
      have HG := Lib.hid hG
      have HR := Lib.hid hr
      clear hG hv e9 hr
      go_wp2_with fail
      go_ret
      exact ⟨g, rfl, HG.out, z, HR.out⟩

  · have e0 : (op == (0 : Int)) = false := by simpa using h0
    have e : ptrsQ b op = #[.pointer (some ⟨b, 2, none⟩), .pointer (some ⟨b, 3, none⟩), .pointer (some ⟨b, 4, none⟩)] := if_neg h0
    rw [e]
    clear h0 e
    go_enter Tryz.func59, Tryz.ntmps59
    go_wp2_with fail
    apply region_V (Pn w) (Below w.heap.size w) [.inl (.pointer (some ⟨b, 0, none⟩)), .inl (.pointer (some ⟨b, 0, none⟩)), .inl (.pointer (some ⟨b, 2, none⟩)), .inl (.pointer (some ⟨b, 0, none⟩)), .inl (.pointer (some ⟨b, 0, none⟩)), .inl (.pointer (some ⟨b, 3, none⟩)), .inl (.pointer (some ⟨b, 0, none⟩)), .inl (.pointer (some ⟨b, 0, none⟩)), .inl (.pointer (some ⟨b, 4, none⟩)), .inr #[.pointer (some ⟨b, 2, none⟩), .pointer (some ⟨b, 3, none⟩), .pointer (some ⟨b, 4, none⟩)], .inr #[.pointer (some ⟨b, 2, none⟩), .pointer (some ⟨b, 3, none⟩), .pointer (some ⟨b, 4, none⟩)]] (.inl undef)
    case mono => exact fun p v w0 w1 h hb => Pn.mono h hb
    case hm => kernel_rfl
    case hf => kernel_rfl
    case hQ => exact (by intro c x y w e h; exact And.intro (e.symm.trans (And.left h)) (And.right h))
    case hF => intro vs; simp only [putAll, Act.put, List.setIfInBounds_toArray, List.set_cons_zero, List.set_cons_succ, Nat.reduceAdd]; rfl
    case h0 => exact ⟨rfl, rfl, rfl, Nat.le_refl _, fun _ _ => rfl⟩
    case hstep =>
      repeat' (first | exact AllOps.nil | apply AllOps.cons)
      · intro vs wx hG hd K hK
        replace hK : ∀ (uu : Value) (w' : World), Below wx.heap.size wx w' → ((Below w.heap.size w)) w' → (Pn w) (.inl (.pointer (some ⟨b, 0, none⟩))) uu w' → K _ w' := hK
        simp only [Act.put, List.setIfInBounds_toArray, List.set_cons_zero, List.set_cons_succ] at hK ⊢
        have HK := Lib.hid hK
        have HG := Lib.hid hG
        clear hK hd
        clear hG
        go_simp
        exact HK.out _ _ (Below.refl _ _) HG.out rfl
      · intro vs wx hG hd K hK
        have e0 : vs 0 = .pointer (some ⟨b, 0, none⟩) := hd.get (j := 0) (by simp [depsOf, Region.binds])
        replace hK : ∀ (uu : Value) (w' : World), Below wx.heap.size wx w' → ((Below w.heap.size w)) w' → (Pn w) (.inl (.pointer (some ⟨b, 0, none⟩))) uu w' → K _ w' := hK
        simp only [Act.put, List.setIfInBounds_toArray, List.set_cons_zero, List.set_cons_succ, e0] at hK ⊢
        have HK := Lib.hid hK
        have HG := Lib.hid hG
        clear hK hd e0
        clear hG
        go_simp
        exact HK.out _ _ (Below.refl _ _) HG.out rfl
      · intro vs wx hG hd K hK
        have e1 : vs 1 = .pointer (some ⟨b, 0, none⟩) := hd.get (j := 1) (by simp [depsOf, Region.binds])
        replace hK : ∀ (uu : Value) (w' : World), Below wx.heap.size wx w' → ((Below w.heap.size w)) w' → (Pn w) (.inl (.pointer (some ⟨b, 2, none⟩))) uu w' → K _ w' := hK
        simp only [Act.put, List.setIfInBounds_toArray, List.set_cons_zero, List.set_cons_succ, e1] at hK ⊢
        have HK := Lib.hid hK
        have HG := Lib.hid hG
        clear hK hd e1
        clear hG
        go_simp
        exact HK.out _ _ (Below.refl _ _) HG.out rfl
      · intro vs wx hG hd K hK
        replace hK : ∀ (uu : Value) (w' : World), Below wx.heap.size wx w' → ((Below w.heap.size w)) w' → (Pn w) (.inl (.pointer (some ⟨b, 0, none⟩))) uu w' → K _ w' := hK
        simp only [Act.put, List.setIfInBounds_toArray, List.set_cons_zero, List.set_cons_succ] at hK ⊢
        have HK := Lib.hid hK
        have HG := Lib.hid hG
        clear hK hd
        clear hG
        go_simp
        exact HK.out _ _ (Below.refl _ _) HG.out rfl
      · intro vs wx hG hd K hK
        have e3 : vs 3 = .pointer (some ⟨b, 0, none⟩) := hd.get (j := 3) (by simp [depsOf, Region.binds])
        replace hK : ∀ (uu : Value) (w' : World), Below wx.heap.size wx w' → ((Below w.heap.size w)) w' → (Pn w) (.inl (.pointer (some ⟨b, 0, none⟩))) uu w' → K _ w' := hK
        simp only [Act.put, List.setIfInBounds_toArray, List.set_cons_zero, List.set_cons_succ, e3] at hK ⊢
        have HK := Lib.hid hK
        have HG := Lib.hid hG
        clear hK hd e3
        clear hG
        go_simp
        exact HK.out _ _ (Below.refl _ _) HG.out rfl
      · intro vs wx hG hd K hK
        have e4 : vs 4 = .pointer (some ⟨b, 0, none⟩) := hd.get (j := 4) (by simp [depsOf, Region.binds])
        replace hK : ∀ (uu : Value) (w' : World), Below wx.heap.size wx w' → ((Below w.heap.size w)) w' → (Pn w) (.inl (.pointer (some ⟨b, 3, none⟩))) uu w' → K _ w' := hK
        simp only [Act.put, List.setIfInBounds_toArray, List.set_cons_zero, List.set_cons_succ, e4] at hK ⊢
        have HK := Lib.hid hK
        have HG := Lib.hid hG
        clear hK hd e4
        clear hG
        go_simp
        exact HK.out _ _ (Below.refl _ _) HG.out rfl
      · intro vs wx hG hd K hK
        replace hK : ∀ (uu : Value) (w' : World), Below wx.heap.size wx w' → ((Below w.heap.size w)) w' → (Pn w) (.inl (.pointer (some ⟨b, 0, none⟩))) uu w' → K _ w' := hK
        simp only [Act.put, List.setIfInBounds_toArray, List.set_cons_zero, List.set_cons_succ] at hK ⊢
        have HK := Lib.hid hK
        have HG := Lib.hid hG
        clear hK hd
        clear hG
        go_simp
        exact HK.out _ _ (Below.refl _ _) HG.out rfl
      · intro vs wx hG hd K hK
        have e6 : vs 6 = .pointer (some ⟨b, 0, none⟩) := hd.get (j := 6) (by simp [depsOf, Region.binds])
        replace hK : ∀ (uu : Value) (w' : World), Below wx.heap.size wx w' → ((Below w.heap.size w)) w' → (Pn w) (.inl (.pointer (some ⟨b, 0, none⟩))) uu w' → K _ w' := hK
        simp only [Act.put, List.setIfInBounds_toArray, List.set_cons_zero, List.set_cons_succ, e6] at hK ⊢
        have HK := Lib.hid hK
        have HG := Lib.hid hG
        clear hK hd e6
        clear hG
        go_simp
        exact HK.out _ _ (Below.refl _ _) HG.out rfl
      · intro vs wx hG hd K hK
        have e7 : vs 7 = .pointer (some ⟨b, 0, none⟩) := hd.get (j := 7) (by simp [depsOf, Region.binds])
        replace hK : ∀ (uu : Value) (w' : World), Below wx.heap.size wx w' → ((Below w.heap.size w)) w' → (Pn w) (.inl (.pointer (some ⟨b, 4, none⟩))) uu w' → K _ w' := hK
        simp only [Act.put, List.setIfInBounds_toArray, List.set_cons_zero, List.set_cons_succ, e7] at hK ⊢
        have HK := Lib.hid hK
        have HG := Lib.hid hG
        clear hK hd e7
        clear hG
        go_simp
        exact HK.out _ _ (Below.refl _ _) HG.out rfl
      · intro vs wx hG hd K hK
        have e2 : vs 2 = .pointer (some ⟨b, 2, none⟩) := hd.get (j := 2) (by simp [depsOf, Region.binds])
        have e5 : vs 5 = .pointer (some ⟨b, 3, none⟩) := hd.get (j := 5) (by simp [depsOf, Region.binds])
        have e8 : vs 8 = .pointer (some ⟨b, 4, none⟩) := hd.get (j := 8) (by simp [depsOf, Region.binds])
        replace hK : ∀ (uu : Value) (w' : World), Below wx.heap.size wx w' → ((Below w.heap.size w)) w' → (Pn w) (.inr #[.pointer (some ⟨b, 2, none⟩), .pointer (some ⟨b, 3, none⟩), .pointer (some ⟨b, 4, none⟩)]) uu w' → K _ w' := hK
        simp only [Act.put, List.setIfInBounds_toArray, List.set_cons_zero, List.set_cons_succ, e2, e5, e8] at hK ⊢
        have HK := Lib.hid hK
        have HG := Lib.hid hG
        clear hK hd e2 e5 e8
        clear hG
        go_simp
        exact HK.out _ _ ((Below.refl _ _).alloc (Nat.le_refl _) _) (HG.out.alloc HG.out.size _) ⟨wx.heap.size, rfl, HG.out.size, ⟨heap_alloc_new wx _⟩⟩
      · intro vs wx hG hd K hK
        obtain ⟨g, e9, z, hr⟩ : ∃ g, vs 9 = .slice (some ⟨g, 0, none⟩) 3 3 ∧ w.heap.size ≤ g ∧ Rwo wx g #[.pointer (some ⟨b, 2, none⟩), .pointer (some ⟨b, 3, none⟩), .pointer (some ⟨b, 4, none⟩)] 137 := hd.get (j := 9) (by simp [depsOf, Region.binds])
        replace hK : ∀ (uu : Value) (w' : World), Below wx.heap.size wx w' → ((Below w.heap.size w)) w' → (Pn w) (.inr #[.pointer (some ⟨b, 2, none⟩), .pointer (some ⟨b, 3, none⟩), .pointer (some ⟨b, 4, none⟩)]) uu w' → K _ w' := hK
        simp only [Act.put, List.setIfInBounds_toArray, List.set_cons_zero, List.set_cons_succ, e9] at hK ⊢
        have HK := Lib.hid hK
        have HG := Lib.hid hG
        clear hK hd e9
        clear hG
        go_simp
        exact HK.out _ _ (Below.refl _ _) HG.out ⟨g, rfl, z, hr⟩
    case hend =>
      intro vs wx hG hv
      obtain ⟨g, e9, z, hr⟩ : ∃ g, vs 10 = .slice (some ⟨g, 0, none⟩) 3 3 ∧ w.heap.size ≤ g ∧ Rwo wx g #[.pointer (some ⟨b, 2, none⟩), .pointer (some ⟨b, 3, none⟩), .pointer (some ⟨b, 4, none⟩)] 137 := hv 10 (by decide)
      rw [e9]
      have HG := Lib.hid hG
      have HR := Lib.hid hr
      clear hG hv e9 hr
      go_wp2_with fail
      go_ret
      exact ⟨g, rfl, HG.out, z, HR.out⟩

end Go.Proofs.YtcfbcidakddhfaaGreatDoor
namespace Go.Proofs.YtcfbcidakddhfaaGreatDoor

theorem runGo_acc (q : Qr) : ∀ (f : Nat) (l : List Pt) (R R2 : List Rowq) (N N2 : List Pt), runGo q f l (R ++ R2) (N ++ N2) = if (runGo q f l R2 N2).1 = 0 then (0, R ++ (runGo q f l R2 N2).2.1, N ++ (runGo q f l R2 N2).2.2) else ((runGo q f l R2 N2).1, [], [])
  | 0, _, _, _, _, _ => rfl
  | f + 1, l, R, R2, N, N2 => by
    rw [runGo_succ, runGo_succ]
    by_cases h0 : l = []
    · rw [if_pos h0, if_pos h0]; rfl
    · rw [if_neg h0, if_neg h0]
      by_cases ht : (tellQ q (l.take (firstN l))).1 = 0
      · simp only [ht, ne_eq, not_true_eq_false, if_false, List.append_assoc]
        exact runGo_acc q f _ R _ N _
      · rw [if_pos ht, if_pos ht, if_neg ht]
theorem runGo_bad (q : Qr) : ∀ (f : Nat) (l : List Pt) (R : List Rowq) (N : List Pt), (runGo q f l R N).1 ≠ 0 → runGo q f l R N = ((runGo q f l R N).1, [], [])
  | 0, _, _, _, h => absurd rfl h
  | f + 1, l, R, N, h => by
    rw [runGo_succ] at h ⊢
    by_cases h0 : l = []
    · rw [if_pos h0] at h; exact absurd rfl h
    · rw [if_neg h0] at h ⊢
      by_cases ht : (tellQ q (l.take (firstN l))).1 = 0
      · rw [if_neg (by simp [ht])] at h ⊢
        exact runGo_bad q f _ _ _ h
      · rw [if_pos ht]
/-- The lists part between two sets. -/
def Parts (a b : List Pt) : Prop := ∀ (ha : 0 < a.length) (hb : 0 < b.length), cmpL (a[a.length - 1]'(by omega)).set (b[0]'(by omega)).set ≠ 0
theorem firstN_app {a b : List Pt} (ha : a ≠ []) (hp : Parts a b) : firstN (a ++ b) = firstN a := by
  have ha0 : 0 < a.length := List.length_pos_iff.2 ha
  have hs : setAt (a ++ b) = setAt a := by
    cases a with
    | nil => exact absurd rfl ha
    | cons x r => rfl
  have hle := firstN_le a
  refine firstN_of (by rw [List.length_append]; omega) (fun j hj hjn => ?_) (fun hj => ?_)
  · rw [hs, List.getElem_append_left (by omega), firstN_in hjn (by omega)]
    exact cmpL_self _
  · rw [hs]
    by_cases hn : firstN a < a.length
    · rw [List.getElem_append_left hn]
      exact firstN_end hn
    · have hn9 : firstN a = a.length := by omega
      rw [List.length_append] at hj
      have hb0 : 0 < b.length := by omega
      have h1 := hp ha0 hb0
      have h2 : (a[a.length - 1]'(by omega)).set = setAt a := firstN_in (by omega) (by omega)
      rw [h2] at h1
      intro h3
      apply h1
      rw [cmpL_anti, ← Int.neg_zero]
      congr 1
      rw [← h3]
      congr 1
      rw [List.getElem_append_right (by omega)]
      congr 2
      omega
theorem parts_drop {a b : List Pt} (n : Nat) (hp : Parts a b) : Parts (a.drop n) b := fun ha hb => by
  rw [List.length_drop] at ha
  have h1 := hp (by omega) hb
  have e : (a.drop n)[(a.drop n).length - 1]'(by rw [List.length_drop]; omega) = a[a.length - 1]'(by omega) := by
    rw [List.getElem_drop]
    congr 1
    rw [List.length_drop]
    omega
  rw [e]
  exact h1
theorem runGo_app (q : Qr) (b : List Pt) : ∀ (f : Nat) (a : List Pt) (R : List Rowq) (N : List Pt), a.length ≤ f → Parts a b →
    runGo q (a ++ b).length (a ++ b) R N = if (runGo q f a R N).1 = 0 then runGo q b.length b (runGo q f a R N).2.1 (runGo q f a R N).2.2 else ((runGo q f a R N).1, [], [])
  | 0, a, R, N, h, _ => by
    obtain rfl := List.eq_nil_of_length_eq_zero (show a.length = 0 by omega)
    rfl
  | f + 1, a, R, N, h, hp => by
    by_cases h0 : a = []
    · subst h0
      rw [runGo_succ, if_pos rfl]
      rfl
    · have ha0 : 0 < a.length := List.length_pos_iff.2 h0
      have h1 := firstN_pos h0
      have h2 := firstN_le a
      have hfa := firstN_app h0 hp
      obtain ⟨g, hg⟩ : ∃ g, (a ++ b).length = g + 1 := ⟨(a ++ b).length - 1, by rw [List.length_append]; omega⟩
      have hne : a ++ b ≠ [] := by simp [h0]
      rw [hg, runGo_succ, runGo_succ, if_neg hne, if_neg h0, hfa, List.take_append_of_le_length h2, List.drop_append_of_le_length h2]
      by_cases ht : (tellQ q (a.take (firstN a))).1 = 0
      · simp only [ht, ne_eq, not_true_eq_false, if_false]
        rw [List.length_append] at hg
        rw [runGo_fuel q g (a.drop (firstN a) ++ b).length (a.drop (firstN a) ++ b) _ _ (by rw [List.length_append, List.length_drop]; omega) (Nat.le_refl _)]
        exact runGo_app q b f _ _ _ (by rw [List.length_drop]; omega) (parts_drop _ hp)
      · rw [if_pos ht, if_pos ht, if_neg ht]
theorem runQ_wrong {q : Qr} {l : List Pt} (h : rightQ q = false) : runQ q l = (1, [], []) := if_pos (.inl h)
theorem runQ_go {q : Qr} {l : List Pt} (h : ¬ rightQ q = false) (hl : l.length ≤ 65536) : runQ q l = runGo q l.length l [] [] := if_neg (by rintro (h1 | h1); (· exact h h1); omega)
/-- The answer of both together is the one behind the other. -/
theorem runQ_app {q : Qr} {a b : List Pt} (hp : Parts a b) (hl : (a ++ b).length ≤ 65536) :
    runQ q (a ++ b) = if (runQ q a).1 ≠ 0 then ((runQ q a).1, [], []) else if (runQ q b).1 ≠ 0 then ((runQ q b).1, [], []) else (0, (runQ q a).2.1 ++ (runQ q b).2.1, (runQ q a).2.2 ++ (runQ q b).2.2) := by
  have hl2 := hl
  rw [List.length_append] at hl
  by_cases hr : rightQ q = false
  · rw [runQ_wrong hr, runQ_wrong hr, if_pos (by simp)]
  · rw [runQ_go hr hl2, runQ_go hr (show a.length ≤ 65536 by omega), runQ_go hr (show b.length ≤ 65536 by omega), runGo_app q b a.length a [] [] (Nat.le_refl _) hp]
    by_cases h1 : (runGo q a.length a [] []).1 = 0
    · rw [if_pos h1, if_neg (by simp [h1])]
      have := runGo_acc q b.length b (runGo q a.length a [] []).2.1 [] (runGo q a.length a [] []).2.2 []
      rw [List.append_nil, List.append_nil] at this
      rw [this]
      by_cases h2 : (runGo q b.length b [] []).1 = 0
      · rw [if_pos h2, if_neg (by simp [h2])]
      · rw [if_neg h2, if_pos h2]
    · rw [if_neg h1, if_pos h1]
theorem runQ_bad {q : Qr} {l : List Pt} (h : (runQ q l).1 ≠ 0) : runQ q l = ((runQ q l).1, [], []) := by
  unfold runQ at h ⊢
  split at h
  · rename_i h1; rw [if_pos h1]
  · rename_i h1; rw [if_neg h1]; exact runGo_bad q _ _ _ _ h
end Go.Proofs.YtcfbcidakddhfaaGreatDoor
