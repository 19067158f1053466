/- The document's disk: the bytes of a segment. -/
import Derived.Test.YtpckbbjlihhpdaaRdF
import Derived.Test.YtpckbbjlihhpdaaRegVS
namespace Go.Proofs.Ytpckbbjlihhpdaa
open Go.RowKit Go.BigFrame

/-- A value as it is, or a slice of the call's own that holds these bytes. -/
def Hb (w : World) : Value ⊕ List UInt8 → Value → World → Prop
  | .inl x, v, _ => v = x
  | .inr l, v, wx => ∃ A c, v = .slice A l.length c ∧ Ob wx w.heap.size (.slice A l.length c) l
theorem Hb.mono {w : World} {p : Value ⊕ List UInt8} {v : Value} {wx w1 : World} (h : Hb w p v wx) (hb : Below wx.heap.size wx w1) : Hb w p v w1 := by
  cases p with
  | inl x => exact h
  | inr l => obtain ⟨A, c, e, ho⟩ := h; exact ⟨A, c, e, ho.below hb⟩
theorem take_drop_b (q : Rq) : q.x.b = q.x.b.take q.x.l ++ q.x.b.drop q.x.l := (List.take_append_drop _ _).symm
/-- The disk, seen from a world behind. -/
structure Gd (w : World) (m : Nat) (room fuse : Int) (down : Bool) (A : Option Addr) (cap : Nat) (qs : List Rq) (wx : World) : Prop where
  k : RK wx m room fuse down A cap qs
  bel : Below w.heap.size w wx
section
variable {w wx w1 : World} {m cap i g : Nat} {room fuse : Int} {down : Bool} {A : Option Addr} {qs : List Rq} {q : Rq}
theorem Gd.c1 (h : Gd w m room fuse down A cap qs wx) : wx.cell? ⟨m, 1, none⟩ = some (.slice A qs.length cap) := h.k.c1
theorem Gd.slot (h : Gd w m room fuse down (some ⟨g, 0, none⟩) cap qs wx) (hi : qs[i]? = some q) : (∀ j u, (encQ q)[j]? = some u → wx.cell? ⟨g, i * 4 + j, none⟩ = some u) ∧ ∀ j, wx.frozen? ⟨g, j, none⟩ = false := h.k.slot hi
theorem Gd.below (h : Gd w m room fuse down A cap qs wx) (hb : Below wx.heap.size wx w1) : Gd w m room fuse down A cap qs w1 := ⟨h.k.below hb, h.bel.trans (hb.mono h.bel.size)⟩
set_option maxRecDepth 100000 in
set_option maxHeartbeats 3200000 in
theorem rbytes_any (h : RK w m room fuse down A cap qs) (hiq : qs[i]? = some q) (hlen : qs.length ≤ 1025) (hsum : q.x.b.length ≤ 67108864) :
    Calls Try.prog 35 #[rP m, .int .i64 (i : Int)] w (NewB w q.x.b) := by
  have hil : i < qs.length := (List.getElem?_eq_some_iff.1 hiq).1
  obtain ⟨g, rfl⟩ := h.addr (by omega)
  have hle := (h.so.sr encQ_len).1.le
  have hmx := (h.so.sr encQ_len).1.max
  unfold maxLen at hmx
  have HK0 := Lib.hid h
  have hq := h.gq q (List.mem_of_getElem? hiq)
  have hl1 : (q.x.b.take q.x.l).length = q.x.l := by rw [List.length_take]; have := hq.le; omega
  have hl2 : (q.x.b.drop q.x.l).length = q.x.b.length - q.x.l := List.length_drop
  have HJ := Lib.hid (fun (W : World) (hW : Below w.heap.size w W) => by
    have := rjoin_any (w := W) ((hq.b1.below hW)) ((hq.b2.below hW)) hW.size (by rw [hl1]; have := hq.le; omega) (by rw [hl2]; omega) (take_drop_b q)
    rw [hl1, hl2] at this
    exact this)
  have i1 : (i : Int) < qs.length := by omega
  clear h hq hl1 hl2
  go_enter Try.func35, Try.ntmps35
  go_wp2_with fail
  apply region_V (Hb w) (Gd w m room fuse down (some ⟨g, 0, none⟩) cap qs) [.inl (.pointer (some ⟨m, 0, none⟩)), .inl (.pointer (some ⟨m, 0, none⟩)), .inl (.pointer (some ⟨m, 1, none⟩)), .inl (.slice (some ⟨g, 0, none⟩) qs.length cap), .inl (.int .i64 (i : Int)), .inl (.pointer (some ⟨g, i * 4, none⟩)), .inl (.pointer (some ⟨g, i * 4 + 1, none⟩)), .inl (.slice q.A q.x.l q.c), .inl (.pointer (some ⟨m, 0, none⟩)), .inl (.pointer (some ⟨m, 0, none⟩)), .inl (.pointer (some ⟨m, 1, none⟩)), .inl (.slice (some ⟨g, 0, none⟩) qs.length cap), .inl (.int .i64 (i : Int)), .inl (.pointer (some ⟨g, i * 4, none⟩)), .inl (.pointer (some ⟨g, i * 4 + 2, none⟩)), .inl (.slice q.B (q.x.b.length - q.x.l) q.d), .inr q.x.b, .inr q.x.b] (.inl undef)
  case mono => exact fun p v w w1 h hb => Hb.mono h hb
  case hm => kernel_rfl
  case hf => kernel_rfl
  case hQ => exact (by intro c x y w e h; exact And.intro (e.symm.trans (And.left h)) (And.right h))
  case hF => intro vs; simp only [putAll, Act.put, List.setIfInBounds_toArray, List.set_cons_zero, List.set_cons_succ, Nat.reduceAdd]; rfl
  case h0 => exact ⟨HK0.out.below ⟨rfl, rfl, rfl, Nat.le_refl _, fun _ _ => rfl⟩, ⟨rfl, rfl, rfl, Nat.le_refl _, fun _ _ => rfl⟩⟩
  case hstep =>
    repeat' (first | exact AllOps.nil | apply AllOps.cons)
    · intro vs wx hG hd K hK
      replace hK : ∀ (uu : Value) (w' : World), Below wx.heap.size wx w' → ((Gd w m room fuse down (some ⟨g, 0, none⟩) cap qs)) w' → (Hb w) (.inl (.pointer (some ⟨m, 0, none⟩))) uu w' → K _ w' := hK
      simp only [Act.put, List.setIfInBounds_toArray, List.set_cons_zero, List.set_cons_succ] at hK ⊢
      have HK := Lib.hid hK
      have HG := Lib.hid hG
      clear hK hd
      clear hG
      go_simp
      exact HK.out _ _ (Below.refl _ _) HG.out rfl
    · intro vs wx hG hd K hK
      have e0 : vs 0 = .pointer (some ⟨m, 0, none⟩) := hd.get (j := 0) (by simp [depsOf, Region.binds])
      replace hK : ∀ (uu : Value) (w' : World), Below wx.heap.size wx w' → ((Gd w m room fuse down (some ⟨g, 0, none⟩) cap qs)) w' → (Hb w) (.inl (.pointer (some ⟨m, 0, none⟩))) uu w' → K _ w' := hK
      simp only [Act.put, List.setIfInBounds_toArray, List.set_cons_zero, List.set_cons_succ, e0] at hK ⊢
      have HK := Lib.hid hK
      have HG := Lib.hid hG
      clear hK hd e0
      clear hG
      go_simp
      exact HK.out _ _ (Below.refl _ _) HG.out rfl
    · intro vs wx hG hd K hK
      have e1 : vs 1 = .pointer (some ⟨m, 0, none⟩) := hd.get (j := 1) (by simp [depsOf, Region.binds])
      replace hK : ∀ (uu : Value) (w' : World), Below wx.heap.size wx w' → ((Gd w m room fuse down (some ⟨g, 0, none⟩) cap qs)) w' → (Hb w) (.inl (.pointer (some ⟨m, 1, none⟩))) uu w' → K _ w' := hK
      simp only [Act.put, List.setIfInBounds_toArray, List.set_cons_zero, List.set_cons_succ, e1] at hK ⊢
      have HK := Lib.hid hK
      have HG := Lib.hid hG
      clear hK hd e1
      clear hG
      go_simp
      exact HK.out _ _ (Below.refl _ _) HG.out rfl
    · intro vs wx hG hd K hK
      have e2 : vs 2 = .pointer (some ⟨m, 1, none⟩) := hd.get (j := 2) (by simp [depsOf, Region.binds])
      replace hK : ∀ (uu : Value) (w' : World), Below wx.heap.size wx w' → ((Gd w m room fuse down (some ⟨g, 0, none⟩) cap qs)) w' → (Hb w) (.inl (.slice (some ⟨g, 0, none⟩) qs.length cap)) uu w' → K _ w' := hK
      simp only [Act.put, List.setIfInBounds_toArray, List.set_cons_zero, List.set_cons_succ, e2] at hK ⊢
      have HK := Lib.hid hK
      have HG := Lib.hid hG
      clear hK hd e2
      have gc1 := HG.out.c1
      obtain ⟨gs, _⟩ := HG.out.slot hiq
      have gs1 := gs 1 _ rfl
      have gs2 := gs 2 _ rfl
      clear hG gs
      go_simp
      exact HK.out _ _ (Below.refl _ _) HG.out rfl
    · intro vs wx hG hd K hK
      replace hK : ∀ (uu : Value) (w' : World), Below wx.heap.size wx w' → ((Gd w m room fuse down (some ⟨g, 0, none⟩) cap qs)) w' → (Hb w) (.inl (.int .i64 (i : Int))) uu w' → K _ w' := hK
      simp only [Act.put, List.setIfInBounds_toArray, List.set_cons_zero, List.set_cons_succ] at hK ⊢
      have HK := Lib.hid hK
      have HG := Lib.hid hG
      clear hK hd
      clear hG
      go_simp
      exact HK.out _ _ (Below.refl _ _) HG.out rfl
    · intro vs wx hG hd K hK
      have e3 : vs 3 = .slice (some ⟨g, 0, none⟩) qs.length cap := hd.get (j := 3) (by simp [depsOf, Region.binds])
      have e4 : vs 4 = .int .i64 (i : Int) := hd.get (j := 4) (by simp [depsOf, Region.binds])
      replace hK : ∀ (uu : Value) (w' : World), Below wx.heap.size wx w' → ((Gd w m room fuse down (some ⟨g, 0, none⟩) cap qs)) w' → (Hb w) (.inl (.pointer (some ⟨g, i * 4, none⟩))) uu w' → K _ w' := hK
      simp only [Act.put, List.setIfInBounds_toArray, List.set_cons_zero, List.set_cons_succ, e3, e4] at hK ⊢
      have HK := Lib.hid hK
      have HG := Lib.hid hG
      clear hK hd e3 e4
      clear hG
      go_simp
      exact HK.out _ _ (Below.refl _ _) HG.out rfl
    · intro vs wx hG hd K hK
      have e5 : vs 5 = .pointer (some ⟨g, i * 4, none⟩) := hd.get (j := 5) (by simp [depsOf, Region.binds])
      replace hK : ∀ (uu : Value) (w' : World), Below wx.heap.size wx w' → ((Gd w m room fuse down (some ⟨g, 0, none⟩) cap qs)) w' → (Hb w) (.inl (.pointer (some ⟨g, i * 4 + 1, none⟩))) uu w' → K _ w' := hK
      simp only [Act.put, List.setIfInBounds_toArray, List.set_cons_zero, List.set_cons_succ, e5] at hK ⊢
      have HK := Lib.hid hK
      have HG := Lib.hid hG
      clear hK hd e5
      clear hG
      go_simp
      exact HK.out _ _ (Below.refl _ _) HG.out rfl
    · intro vs wx hG hd K hK
      have e6 : vs 6 = .pointer (some ⟨g, i * 4 + 1, none⟩) := hd.get (j := 6) (by simp [depsOf, Region.binds])
      replace hK : ∀ (uu : Value) (w' : World), Below wx.heap.size wx w' → ((Gd w m room fuse down (some ⟨g, 0, none⟩) cap qs)) w' → (Hb w) (.inl (.slice q.A q.x.l q.c)) uu w' → K _ w' := hK
      simp only [Act.put, List.setIfInBounds_toArray, List.set_cons_zero, List.set_cons_succ, e6] at hK ⊢
      have HK := Lib.hid hK
      have HG := Lib.hid hG
      clear hK hd e6
      have gc1 := HG.out.c1
      obtain ⟨gs, _⟩ := HG.out.slot hiq
      have gs1 := gs 1 _ rfl
      have gs2 := gs 2 _ rfl
      clear hG gs
      go_simp
      exact HK.out _ _ (Below.refl _ _) HG.out rfl
    · intro vs wx hG hd K hK
      replace hK : ∀ (uu : Value) (w' : World), Below wx.heap.size wx w' → ((Gd w m room fuse down (some ⟨g, 0, none⟩) cap qs)) w' → (Hb w) (.inl (.pointer (some ⟨m, 0, none⟩))) uu w' → K _ w' := hK
      simp only [Act.put, List.setIfInBounds_toArray, List.set_cons_zero, List.set_cons_succ] at hK ⊢
      have HK := Lib.hid hK
      have HG := Lib.hid hG
      clear hK hd
      clear hG
      go_simp
      exact HK.out _ _ (Below.refl _ _) HG.out rfl
    · intro vs wx hG hd K hK
      have e8 : vs 8 = .pointer (some ⟨m, 0, none⟩) := hd.get (j := 8) (by simp [depsOf, Region.binds])
      replace hK : ∀ (uu : Value) (w' : World), Below wx.heap.size wx w' → ((Gd w m room fuse down (some ⟨g, 0, none⟩) cap qs)) w' → (Hb w) (.inl (.pointer (some ⟨m, 0, none⟩))) uu w' → K _ w' := hK
      simp only [Act.put, List.setIfInBounds_toArray, List.set_cons_zero, List.set_cons_succ, e8] at hK ⊢
      have HK := Lib.hid hK
      have HG := Lib.hid hG
      clear hK hd e8
      clear hG
      go_simp
      exact HK.out _ _ (Below.refl _ _) HG.out rfl
    · intro vs wx hG hd K hK
      have e9 : vs 9 = .pointer (some ⟨m, 0, none⟩) := hd.get (j := 9) (by simp [depsOf, Region.binds])
      replace hK : ∀ (uu : Value) (w' : World), Below wx.heap.size wx w' → ((Gd w m room fuse down (some ⟨g, 0, none⟩) cap qs)) w' → (Hb w) (.inl (.pointer (some ⟨m, 1, none⟩))) uu w' → K _ w' := hK
      simp only [Act.put, List.setIfInBounds_toArray, List.set_cons_zero, List.set_cons_succ, e9] at hK ⊢
      have HK := Lib.hid hK
      have HG := Lib.hid hG
      clear hK hd e9
      clear hG
      go_simp
      exact HK.out _ _ (Below.refl _ _) HG.out rfl
    · intro vs wx hG hd K hK
      have e10 : vs 10 = .pointer (some ⟨m, 1, none⟩) := hd.get (j := 10) (by simp [depsOf, Region.binds])
      replace hK : ∀ (uu : Value) (w' : World), Below wx.heap.size wx w' → ((Gd w m room fuse down (some ⟨g, 0, none⟩) cap qs)) w' → (Hb w) (.inl (.slice (some ⟨g, 0, none⟩) qs.length cap)) uu w' → K _ w' := hK
      simp only [Act.put, List.setIfInBounds_toArray, List.set_cons_zero, List.set_cons_succ, e10] at hK ⊢
      have HK := Lib.hid hK
      have HG := Lib.hid hG
      clear hK hd e10
      have gc1 := HG.out.c1
      obtain ⟨gs, _⟩ := HG.out.slot hiq
      have gs1 := gs 1 _ rfl
      have gs2 := gs 2 _ rfl
      clear hG gs
      go_simp
      exact HK.out _ _ (Below.refl _ _) HG.out rfl
    · intro vs wx hG hd K hK
      replace hK : ∀ (uu : Value) (w' : World), Below wx.heap.size wx w' → ((Gd w m room fuse down (some ⟨g, 0, none⟩) cap qs)) w' → (Hb w) (.inl (.int .i64 (i : Int))) uu w' → K _ w' := hK
      simp only [Act.put, List.setIfInBounds_toArray, List.set_cons_zero, List.set_cons_succ] at hK ⊢
      have HK := Lib.hid hK
      have HG := Lib.hid hG
      clear hK hd
      clear hG
      go_simp
      exact HK.out _ _ (Below.refl _ _) HG.out rfl
    · intro vs wx hG hd K hK
      have e11 : vs 11 = .slice (some ⟨g, 0, none⟩) qs.length cap := hd.get (j := 11) (by simp [depsOf, Region.binds])
      have e12 : vs 12 = .int .i64 (i : Int) := hd.get (j := 12) (by simp [depsOf, Region.binds])
      replace hK : ∀ (uu : Value) (w' : World), Below wx.heap.size wx w' → ((Gd w m room fuse down (some ⟨g, 0, none⟩) cap qs)) w' → (Hb w) (.inl (.pointer (some ⟨g, i * 4, none⟩))) uu w' → K _ w' := hK
      simp only [Act.put, List.setIfInBounds_toArray, List.set_cons_zero, List.set_cons_succ, e11, e12] at hK ⊢
      have HK := Lib.hid hK
      have HG := Lib.hid hG
      clear hK hd e11 e12
      clear hG
      go_simp
      exact HK.out _ _ (Below.refl _ _) HG.out rfl
    · intro vs wx hG hd K hK
      have e13 : vs 13 = .pointer (some ⟨g, i * 4, none⟩) := hd.get (j := 13) (by simp [depsOf, Region.binds])
      replace hK : ∀ (uu : Value) (w' : World), Below wx.heap.size wx w' → ((Gd w m room fuse down (some ⟨g, 0, none⟩) cap qs)) w' → (Hb w) (.inl (.pointer (some ⟨g, i * 4 + 2, none⟩))) uu w' → K _ w' := hK
      simp only [Act.put, List.setIfInBounds_toArray, List.set_cons_zero, List.set_cons_succ, e13] at hK ⊢
      have HK := Lib.hid hK
      have HG := Lib.hid hG
      clear hK hd e13
      clear hG
      go_simp
      exact HK.out _ _ (Below.refl _ _) HG.out rfl
    · intro vs wx hG hd K hK
      have e14 : vs 14 = .pointer (some ⟨g, i * 4 + 2, none⟩) := hd.get (j := 14) (by simp [depsOf, Region.binds])
      replace hK : ∀ (uu : Value) (w' : World), Below wx.heap.size wx w' → ((Gd w m room fuse down (some ⟨g, 0, none⟩) cap qs)) w' → (Hb w) (.inl (.slice q.B (q.x.b.length - q.x.l) q.d)) uu w' → K _ w' := hK
      simp only [Act.put, List.setIfInBounds_toArray, List.set_cons_zero, List.set_cons_succ, e14] at hK ⊢
      have HK := Lib.hid hK
      have HG := Lib.hid hG
      clear hK hd e14
      have gc1 := HG.out.c1
      obtain ⟨gs, _⟩ := HG.out.slot hiq
      have gs1 := gs 1 _ rfl
      have gs2 := gs 2 _ rfl
      clear hG gs
      go_simp
      exact HK.out _ _ (Below.refl _ _) HG.out rfl
    · intro vs wx hG hd K hK
      have e7 : vs 7 = .slice q.A q.x.l q.c := hd.get (j := 7) (by simp [depsOf, Region.binds])
      have e15 : vs 15 = .slice q.B (q.x.b.length - q.x.l) q.d := hd.get (j := 15) (by simp [depsOf, Region.binds])
      replace hK : ∀ (uu : Value) (w' : World), Below wx.heap.size wx w' → ((Gd w m room fuse down (some ⟨g, 0, none⟩) cap qs)) w' → (Hb w) (.inr q.x.b) uu w' → K _ w' := hK
      simp only [Act.put, List.setIfInBounds_toArray, List.set_cons_zero, List.set_cons_succ, e7, e15] at hK ⊢
      have HK := Lib.hid hK
      have HG := Lib.hid hG
      clear hK hd e7 e15
      clear hG
      go_simp
      go_at_call 46
      refine (HJ.out _ HG.out.bel).mono ?_
      rintro e w1 ⟨A9, c9, rfl, ho, hb⟩
      exact HK.out _ _ hb (HG.out.below hb) ⟨A9, c9, rfl, ho.more HG.out.bel.size⟩
    · intro vs wx hG hd K hK
      obtain ⟨A16, c16, e16, q16⟩ : ∃ Aq cq, vs 16 = .slice Aq q.x.b.length cq ∧ Ob wx w.heap.size (.slice Aq q.x.b.length cq) q.x.b := hd.get (j := 16) (by simp [depsOf, Region.binds])
      replace hK : ∀ (uu : Value) (w' : World), Below wx.heap.size wx w' → ((Gd w m room fuse down (some ⟨g, 0, none⟩) cap qs)) w' → (Hb w) (.inr q.x.b) uu w' → K _ w' := hK
      simp only [Act.put, List.setIfInBounds_toArray, List.set_cons_zero, List.set_cons_succ, e16] at hK ⊢
      have HK := Lib.hid hK
      have HG := Lib.hid hG
      clear hK hd e16
      clear hG
      go_simp
      exact HK.out _ _ (Below.refl _ _) HG.out ⟨A16, c16, rfl, q16⟩
  case hend =>
    intro vs wx hG hv
    obtain ⟨A9, c9, e17, ho⟩ : ∃ A c, vs 17 = .slice A q.x.b.length c ∧ Ob wx w.heap.size (.slice A q.x.b.length c) q.x.b := hv 17 (by decide)
    rw [e17]
    clear hv e17
    go_wp2_with fail
    go_ret
    exact ⟨A9, c9, rfl, ho, hG.bel⟩
end
end Go.Proofs.Ytpckbbjlihhpdaa
