/- The document's disk: Crash. -/
import Derived.Test.YtkkaehaoahpibaaPk7
namespace Go.Proofs.Ytkkaehaoahpibaa
open Go.RowKit Go.BigFrame

theorem Bs.head {w : World} {K cap j : Nat} {A : Option Addr} {l : List UInt8} (h : Bs w K A cap l) (hj : j ≤ l.length) : Bs w K A cap (l.take j) := by
  have hle := h.le
  have hlen : (l.take j).length = j := by simp; omega
  refine ⟨by omega, h.max, h.nil, fun hn => ?_⟩
  obtain ⟨ad, e, hb, hc⟩ := h.at_ (by omega)
  refine ⟨ad, e, hb, fun i x hi => hc i x ?_⟩
  rw [List.getElem?_take] at hi
  split at hi
  · exact hi
  · cases hi
theorem crash_snoc : ∀ (L : List As) (a : As) (ks : List Int), crashA (L ++ [a]) ks = crashA L ks ++ tornA a (ks.getD L.length 0)
  | [], a, ks => by
    show tornA a (ks.headD 0) ++ [] = [] ++ tornA a (ks.getD 0 0)
    cases ks <;> simp
  | b :: L, a, ks => by
    have ih := crash_snoc L a ks.tail
    show tornA b (ks.headD 0) ++ crashA (L ++ [a]) ks.tail = (tornA b (ks.headD 0) ++ crashA L ks.tail) ++ tornA a (ks.getD (L.length + 1) 0)
    rw [ih, List.append_assoc]
    cases ks <;> simp
theorem torn_eq {x : As} {more : Int} {mr : Nat} {bb : List UInt8} (hl : x.l ≤ x.b.length) (hm : mr = min more.toNat (x.b.length - x.l)) (hb : bb = x.b.take x.l ++ (x.b.drop x.l).take mr) : tornA x more = if x.k = true ∨ 0 < bb.length then [⟨x.n, bb, bb.length, true⟩] else [] := by
  have e : kq x more = x.l + mr := by unfold kq; omega
  have e2 : bb = x.b.take (x.l + mr) := by rw [hb, List.take_add]
  have e3 : bb.length = x.l + mr := by rw [e2, List.length_take]; omega
  unfold tornA
  rw [e, e3, ← e2]
/-- Behind i rounds: the new row of segments. -/
structure Cq (w wr : World) (ks : List Int) (qs : List Rq) (i : Nat) (B : Option Addr) (k c : Nat) (rs : List Rq) : Prop where
  len : k = rs.length
  eq : rs.map Rq.x = crashA ((qs.take i).map Rq.x) ks
  so : So encQ 4 wr w.heap.size SG (.slice B k c) rs
  bl : Below w.heap.size w wr
  old : ∀ q ∈ rs, GQ wr q ∧ ∀ j, fq q j → w.heap.size ≤ j ∧ (Value.slice B k c).ownBlock ≠ some j
section
variable {w wr wx w2 : World} {ks : List Int} {qs rs : List Rq} {i k c c2 : Nat} {B A2 : Option Addr} {q : Rq}
theorem Cq.below (C : Cq w wr ks qs i B k c rs) (hb : Below wr.heap.size wr wx) : Cq w wx ks qs i B k c rs :=
  ⟨C.len, C.eq, C.so.below hb, C.bl.trans (hb.mono C.bl.size), fun q hq => ⟨((C.old q hq).1).tn (P := fun _ => False) (Tn.ofNew hb) fun _ _ h => h, (C.old q hq).2⟩⟩
theorem Cq.none_ (C : Cq w wr ks qs i B k c rs) (hb : Below wr.heap.size wr wx) (e : crashA ((qs.take (i + 1)).map Rq.x) ks = crashA ((qs.take i).map Rq.x) ks ++ []) : Cq w wx ks qs (i + 1) B k c rs := by
  have C2 := C.below hb
  exact ⟨C2.len, by rw [e, List.append_nil]; exact C2.eq, C2.so, C2.bl, C2.old⟩
theorem Cq.push {n : Int} {bb : List UInt8} {A9 : Option Addr} {c9 : Nat} (C : Cq w wr ks qs i B k c rs) (hb : Below wr.heap.size wr wx) (ho : Ob wx wr.heap.size (.slice A9 bb.length c9) bb) (so : So encQ 4 w2 w.heap.size SG (.slice A2 (k + 1) c2) (rs ++ [⟨⟨n, bb, bb.length, true⟩, A9, c9, none, 0⟩])) (b2 : Below w.heap.size w w2) (gr : wx.grownBy w2 (Value.slice B k c).ownBlock)
    (hat : (Value.slice A2 (k + 1) c2).ownBlock = (Value.slice B k c).ownBlock ∨ ∃ g, (Value.slice A2 (k + 1) c2).ownBlock = some g ∧ wx.heap.size ≤ g) (e : crashA ((qs.take (i + 1)).map Rq.x) ks = crashA ((qs.take i).map Rq.x) ks ++ [⟨n, bb, bb.length, true⟩]) :
    Cq w w2 ks qs (i + 1) A2 (k + 1) c2 (rs ++ [⟨⟨n, bb, bb.length, true⟩, A9, c9, none, 0⟩]) := by
  have C2 := C.below hb
  have t := Tn.ofGrown gr
  have ht := hb.size
  have hz := C.bl.size
  have hown : ∀ j, wr.heap.size ≤ j → j < wx.heap.size → (Value.slice B k c).ownBlock ≠ some j := fun j h1 _ e => by have := (C.so.lt j e).2; omega
  have hnew : ∀ j, (Value.slice B k c).ownBlock ≠ some j → j < wx.heap.size → (Value.slice A2 (k + 1) c2).ownBlock ≠ some j := fun j h1 h2 e => by
    rcases hat with h | ⟨g, h, hg⟩
    · exact h1 (h ▸ e)
    · rw [h] at e; injection e with e; omega
  refine ⟨by rw [List.length_append, ← C.len]; rfl, by rw [e, List.map_append, C.eq]; rfl, so, b2, fun q hq => ?_⟩
  rcases List.mem_append.1 hq with hq | hq
  · have h1 := C2.old q hq
    refine ⟨h1.1.tn t fun j hj e => (h1.2 j hj).2 e.symm, fun j hj => ⟨(h1.2 j hj).1, hnew j (h1.2 j hj).2 (h1.1.lt hj)⟩⟩
  · obtain rfl := List.mem_singleton.1 hq
    have hfq : ∀ j, fq ⟨⟨n, bb, bb.length, true⟩, A9, c9, none, 0⟩ j → wr.heap.size ≤ j ∧ j < wx.heap.size := by
      rintro j (⟨hl, ad, e, ek⟩ | ⟨hl, ad, e, _⟩)
      · have := own_block ho (by simpa using hl) e ek
        exact ⟨this.1, (ho.lt j this.2).2⟩
      · cases e
    refine ⟨⟨Nat.le_refl _, ?_, ?_⟩, fun j hj => ⟨by have := hfq j hj; omega, hnew j (hown j (hfq j hj).1 (hfq j hj).2) (hfq j hj).2⟩⟩
    · have h1 := t.ob ho fun j hj e => hown j (ho.lt j hj).1 (ho.lt j hj).2 e.symm
      simpa using h1.bs.1
    · simp only [List.drop_length]
      exact ⟨Nat.zero_le _, Nat.zero_le _, fun _ => rfl, fun h => absurd h (by simp)⟩
end
section
variable {B : Nat → Prop} {w : World} {m : Nat} {a : Ad}
set_option maxRecDepth 100000 in
set_option maxHeartbeats 3200000 in
theorem rcrash_RD {K' kc : Nat} {KA : Option Addr} {ks : List Int} (h : RD w B m a) (hl : Lim a) (hk : Sr encI 1 w K' KA kc ks) (hK' : K' ≤ w.heap.size) :
    Calls Try.prog 25 #[rP m, .slice KA ks.length kc] w fun e w' => e = .returned (.tuple #[]) ∧ (Rn w B m 0 (crashD a ks) (.returned (.int .i64 0)) w') := by
  obtain ⟨A, cap, qs, D, e, hB⟩ := h.ex
  clear h
  obtain ⟨room, fuse, down, L⟩ := a
  obtain ⟨hle0, hrm, hln, hf1, hf2, hri⟩ := hl
  simp only at D e hle0 hrm hln hf1 hf2 hri
  subst e
  have hlen : qs.length ≤ 1024 := by simpa using hln
  have hsum : sumA (qs.map Rq.x) ≤ 67108864 := by omega
  have HB := Lib.hid hB
  have HD := Lib.hid D
  have HK := Lib.hid (hk.more hK')
  have hkl := hk.le
  have hkm := hk.max
  have hle := (D.so.sr encQ_len).1.le
  have hmx := (D.so.sr encQ_len).1.max
  unfold maxLen at hmx hkm
  have HSU := Lib.hid hsum
  clear hle0 hrm hln hf1 hf2 hri hB D hk hsum
  go_enter Try.func25, Try.ntmps25
  go_wp2_with fail
  go_loopw [4, 5] (fun l iv wr => ∃ (i k c : Nat) (B : Option Addr) (rs : List Rq), i ≤ qs.length ∧ iv = .int .i64 i ∧ l = .slice B k c ∧ Hid (Cq w wr ks qs i B k c rs)) (fun _ iv _ => qs.length - (intOf iv).toNat)
  case atStart => exact ⟨0, 0, 0, none, [], Nat.zero_le _, rfl, rfl, Lib.hid ⟨rfl, rfl, So.empty _ _ _ _ _, Below.refl _ _, fun _ h => by cases h⟩⟩
  case round =>
    obtain ⟨i, k, c, B, rs, hi, rfl, rfl, HC⟩ := hrel
    rename World => wr
    have z1 : w.heap.size ≤ wr.heap.size := HC.out.bl.size
    have H2 := Lib.hid (HD.out.below HC.out.bl)
    have d1 := H2.out.c1
    have hkb : k ≤ 1024 := by
      rw [HC.out.len, ← List.length_map (f := Rq.x), HC.out.eq]
      have := len_crash ((qs.take i).map Rq.x) ks
      simp only [List.length_map, List.length_take] at this
      omega
    by_cases hlt : i < qs.length
    · have i1 : (i : Int) < qs.length := by omega
      obtain ⟨g, rfl⟩ := H2.out.addr (by omega)
      have hiq0 : qs[i]? = some qs[i] := List.getElem?_eq_getElem hlt
      have hcs : crashA ((qs.take (i + 1)).map Rq.x) ks = crashA ((qs.take i).map Rq.x) ks ++ tornA qs[i].x (ks.getD i 0) := by
        rw [List.take_succ_eq_append_getElem hlt, List.map_append]
        have := crash_snoc ((qs.take i).map Rq.x) qs[i].x ks
        simp only [List.length_map, List.length_take, show min i qs.length = i by omega] at this
        exact this
      have hsn := sum_next hlt
      have hst := sum_take (qs := qs) (i + 1)
      have hsu := HSU.out
      obtain ⟨q, hq⟩ : ∃ q, q = qs[i] := ⟨_, rfl⟩
      rw [← hq] at hiq0 hcs hsn
      have hiq := hiq0
      have hqs : q.x.b.length ≤ 67108864 := by omega
      clear hiq0 hsn hst hsu hq
      have HCS := Lib.hid hcs
      have hgq := H2.out.gq q (List.mem_of_getElem? hiq)
      have hgl := hgq.le
      have hbl2 := hgq.b2.le
      have hbm2 := hgq.b2.max
      unfold maxLen at hbm2
      have hl1 : (q.x.b.take q.x.l).length = q.x.l := by rw [List.length_take]; omega
      have hl2 : (q.x.b.drop q.x.l).length = q.x.b.length - q.x.l := List.length_drop
      rw [hl2] at hbl2
      have HGQ := Lib.hid hgq
      have HL1 := Lib.hid hl1
      have HL2 := Lib.hid hl2
      obtain ⟨us, _⟩ := H2.out.slot hiq
      have u2 : wr.cell? ⟨g, i * 4 + 2, none⟩ = some (.slice q.B (q.x.b.length - q.x.l) q.d) := us 2 _ rfl
      clear us hgq hl1 hl2 hcs
      have HALL : Hid (∀ (mr : Nat), mr = min (ks.getD i 0).toNat (q.x.b.length - q.x.l) → ∃ bb : List UInt8, bb.length ≤ 67108864 ∧ Hid (∀ W, Below wr.heap.size wr W → Calls Try.prog 42 #[.slice q.A q.x.l q.c, .slice q.B mr q.d] W (NewB W bb)) ∧ Hid (crashA ((qs.take (i + 1)).map Rq.x) ks = crashA ((qs.take i).map Rq.x) ks ++ (if q.x.k = true ∨ 0 < bb.length then [⟨q.x.n, bb, bb.length, true⟩] else [])) ∧ Hid (∀ W, (Instr.slice 32 (.slice q.B (q.x.b.length - q.x.l) q.d) none (some (.int .i64 (mr : Int))) none).run Try.prog W = .ok (.slice q.B mr q.d) W)) := Lib.hid fun mr hmr => by
        have hm2 : mr ≤ q.x.b.length - q.x.l := by omega
        have hl3 : ((q.x.b.drop q.x.l).take mr).length = mr := by rw [List.length_take, HL2.out]; omega
        refine ⟨_, ?_, Lib.hid fun W hW => ?_, Lib.hid (HCS.out.trans (by rw [torn_eq hgl hmr rfl])), Lib.hid fun W => slice_to _ _ _ _ (by omega) W⟩
        · rw [List.length_append, hl3, HL1.out]; omega
        · have := rjoin_any (w := W) ((HGQ.out.b1.below hW)) ((HGQ.out.b2.below hW).head (j := mr) (by rw [HL2.out]; exact hm2)) hW.size (by rw [HL1.out]; omega) (by rw [hl3]; omega) rfl
          rw [HL1.out, hl3] at this
          exact this
      by_cases hik : i < ks.length
      · have i2 : (i : Int) < ks.length := by omega
        have hmore : ks.getD i 0 = ks[i] := by simp [hik]
        rw [hmore] at HALL
        obtain ⟨ak, rfl, hbk, hck⟩ := (HK.out.below HC.out.bl).int (i := i) hik
        generalize ks[i] = mo at *
        clear hmore
        by_cases hp : 0 < mo
        · obtain ⟨mn, rfl⟩ : ∃ mn : Nat, mo = (mn : Int) := ⟨mo.toNat, by omega⟩
          by_cases hmn : mn ≤ q.x.b.length - q.x.l
          · obtain ⟨bb, hbb, HJ, HTN, HS1⟩ := HALL.out mn (by omega)
            have b5 : decide (0 < mn) = true := by simp; omega
            have b6 : decide (q.x.b.length - q.x.l < mn) = false := by simp; omega
            have b7 : ¬ q.x.b.length - q.x.l < mn := by omega
            clear hmn
            clear HALL HCS HGQ HL1 HL2
            go_wp2_with fail
            apply region_V (Hb wr) (Gd wr m room fuse down (some ⟨g, 0, none⟩) cap qs) [.inl (.pointer (some ⟨m, 0, none⟩)), .inl (.pointer (some ⟨m, 0, none⟩)), .inl (.pointer (some ⟨m, 1, none⟩)), .inl (.slice (some ⟨g, 0, none⟩) qs.length cap), .inl (.int .i64 (i : Int)), .inl (.pointer (some ⟨g, i * 4, none⟩)), .inl (.pointer (some ⟨g, i * 4 + 1, none⟩)), .inl (.slice q.A q.x.l q.c), .inl (.pointer (some ⟨m, 0, none⟩)), .inl (.pointer (some ⟨m, 0, none⟩)), .inl (.pointer (some ⟨m, 1, none⟩)), .inl (.slice (some ⟨g, 0, none⟩) qs.length cap), .inl (.int .i64 (i : Int)), .inl (.pointer (some ⟨g, i * 4, none⟩)), .inl (.pointer (some ⟨g, i * 4 + 2, none⟩)), .inl (.slice q.B (q.x.b.length - q.x.l) q.d), .inl (.int .i64 (mn : Int)), .inl (.slice q.B mn q.d), .inr bb, .inr bb] (.inl undef)
            case mono => exact fun p v w0 w9 h hb => Hb.mono h hb
            case hm => kernel_rfl
            case hf => kernel_rfl
            case hQ => exact (by intro c x y w e h; exact And.intro (e.symm.trans (And.left h)) (And.right h))
            case hF => intro vs; simp only [putAll, Act.put, List.setIfInBounds_toArray, List.set_cons_zero, List.set_cons_succ, Nat.reduceAdd]; rfl
            case h0 => exact ⟨H2.out.below ⟨rfl, rfl, rfl, Nat.le_refl _, fun _ _ => rfl⟩, ⟨rfl, rfl, rfl, Nat.le_refl _, fun _ _ => rfl⟩⟩
            case hstep =>
              repeat' (first | exact AllOps.nil | apply AllOps.cons)
              · intro vs wx hG hd K hK
                replace hK : ∀ (uu : Value) (w' : World), Below wx.heap.size wx w' → ((Gd wr m room fuse down (some ⟨g, 0, none⟩) cap qs)) w' → (Hb wr) (.inl (.pointer (some ⟨m, 0, none⟩))) uu w' → K _ w' := hK
                simp only [Act.put, List.setIfInBounds_toArray, List.set_cons_zero, List.set_cons_succ] at hK ⊢
                have HK := Lib.hid hK
                have HG := Lib.hid hG
                clear hK hd
                clear hG
                go_simp
                exact HK.out _ _ (Below.refl _ _) HG.out rfl
              · intro vs wx hG hd K hK
                have e0 : vs 0 = .pointer (some ⟨m, 0, none⟩) := hd.get (j := 0) (by simp [depsOf, Region.binds])
                replace hK : ∀ (uu : Value) (w' : World), Below wx.heap.size wx w' → ((Gd wr m room fuse down (some ⟨g, 0, none⟩) cap qs)) w' → (Hb wr) (.inl (.pointer (some ⟨m, 0, none⟩))) uu w' → K _ w' := hK
                simp only [Act.put, List.setIfInBounds_toArray, List.set_cons_zero, List.set_cons_succ, e0] at hK ⊢
                have HK := Lib.hid hK
                have HG := Lib.hid hG
                clear hK hd e0
                clear hG
                go_simp
                exact HK.out _ _ (Below.refl _ _) HG.out rfl
              · intro vs wx hG hd K hK
                have e1 : vs 1 = .pointer (some ⟨m, 0, none⟩) := hd.get (j := 1) (by simp [depsOf, Region.binds])
                replace hK : ∀ (uu : Value) (w' : World), Below wx.heap.size wx w' → ((Gd wr m room fuse down (some ⟨g, 0, none⟩) cap qs)) w' → (Hb wr) (.inl (.pointer (some ⟨m, 1, none⟩))) uu w' → K _ w' := hK
                simp only [Act.put, List.setIfInBounds_toArray, List.set_cons_zero, List.set_cons_succ, e1] at hK ⊢
                have HK := Lib.hid hK
                have HG := Lib.hid hG
                clear hK hd e1
                clear hG
                go_simp
                exact HK.out _ _ (Below.refl _ _) HG.out rfl
              · intro vs wx hG hd K hK
                have e2 : vs 2 = .pointer (some ⟨m, 1, none⟩) := hd.get (j := 2) (by simp [depsOf, Region.binds])
                replace hK : ∀ (uu : Value) (w' : World), Below wx.heap.size wx w' → ((Gd wr m room fuse down (some ⟨g, 0, none⟩) cap qs)) w' → (Hb wr) (.inl (.slice (some ⟨g, 0, none⟩) qs.length cap)) uu w' → K _ w' := hK
                simp only [Act.put, List.setIfInBounds_toArray, List.set_cons_zero, List.set_cons_succ, e2] at hK ⊢
                have HK := Lib.hid hK
                have HG := Lib.hid hG
                clear hK hd e2
                have gc1 := HG.out.c1
                obtain ⟨gs, _⟩ := HG.out.slot hiq
                have gs1 := gs 1 _ rfl
                have gs2 := gs 2 _ rfl
                clear hG gs
                go_simp
                exact HK.out _ _ (Below.refl _ _) HG.out rfl
              · intro vs wx hG hd K hK
                replace hK : ∀ (uu : Value) (w' : World), Below wx.heap.size wx w' → ((Gd wr m room fuse down (some ⟨g, 0, none⟩) cap qs)) w' → (Hb wr) (.inl (.int .i64 (i : Int))) uu w' → K _ w' := hK
                simp only [Act.put, List.setIfInBounds_toArray, List.set_cons_zero, List.set_cons_succ] at hK ⊢
                have HK := Lib.hid hK
                have HG := Lib.hid hG
                clear hK hd
                clear hG
                go_simp
                exact HK.out _ _ (Below.refl _ _) HG.out rfl
              · intro vs wx hG hd K hK
                have e3 : vs 3 = .slice (some ⟨g, 0, none⟩) qs.length cap := hd.get (j := 3) (by simp [depsOf, Region.binds])
                have e4 : vs 4 = .int .i64 (i : Int) := hd.get (j := 4) (by simp [depsOf, Region.binds])
                replace hK : ∀ (uu : Value) (w' : World), Below wx.heap.size wx w' → ((Gd wr m room fuse down (some ⟨g, 0, none⟩) cap qs)) w' → (Hb wr) (.inl (.pointer (some ⟨g, i * 4, none⟩))) uu w' → K _ w' := hK
                simp only [Act.put, List.setIfInBounds_toArray, List.set_cons_zero, List.set_cons_succ, e3, e4] at hK ⊢
                have HK := Lib.hid hK
                have HG := Lib.hid hG
                clear hK hd e3 e4
                clear hG
                go_simp
                exact HK.out _ _ (Below.refl _ _) HG.out rfl
              · intro vs wx hG hd K hK
                have e5 : vs 5 = .pointer (some ⟨g, i * 4, none⟩) := hd.get (j := 5) (by simp [depsOf, Region.binds])
                replace hK : ∀ (uu : Value) (w' : World), Below wx.heap.size wx w' → ((Gd wr m room fuse down (some ⟨g, 0, none⟩) cap qs)) w' → (Hb wr) (.inl (.pointer (some ⟨g, i * 4 + 1, none⟩))) uu w' → K _ w' := hK
                simp only [Act.put, List.setIfInBounds_toArray, List.set_cons_zero, List.set_cons_succ, e5] at hK ⊢
                have HK := Lib.hid hK
                have HG := Lib.hid hG
                clear hK hd e5
                clear hG
                go_simp
                exact HK.out _ _ (Below.refl _ _) HG.out rfl
              · intro vs wx hG hd K hK
                have e6 : vs 6 = .pointer (some ⟨g, i * 4 + 1, none⟩) := hd.get (j := 6) (by simp [depsOf, Region.binds])
                replace hK : ∀ (uu : Value) (w' : World), Below wx.heap.size wx w' → ((Gd wr m room fuse down (some ⟨g, 0, none⟩) cap qs)) w' → (Hb wr) (.inl (.slice q.A q.x.l q.c)) uu w' → K _ w' := hK
                simp only [Act.put, List.setIfInBounds_toArray, List.set_cons_zero, List.set_cons_succ, e6] at hK ⊢
                have HK := Lib.hid hK
                have HG := Lib.hid hG
                clear hK hd e6
                have gc1 := HG.out.c1
                obtain ⟨gs, _⟩ := HG.out.slot hiq
                have gs1 := gs 1 _ rfl
                have gs2 := gs 2 _ rfl
                clear hG gs
                go_simp
                exact HK.out _ _ (Below.refl _ _) HG.out rfl
              · intro vs wx hG hd K hK
                replace hK : ∀ (uu : Value) (w' : World), Below wx.heap.size wx w' → ((Gd wr m room fuse down (some ⟨g, 0, none⟩) cap qs)) w' → (Hb wr) (.inl (.pointer (some ⟨m, 0, none⟩))) uu w' → K _ w' := hK
                simp only [Act.put, List.setIfInBounds_toArray, List.set_cons_zero, List.set_cons_succ] at hK ⊢
                have HK := Lib.hid hK
                have HG := Lib.hid hG
                clear hK hd
                clear hG
                go_simp
                exact HK.out _ _ (Below.refl _ _) HG.out rfl
              · intro vs wx hG hd K hK
                have e8 : vs 8 = .pointer (some ⟨m, 0, none⟩) := hd.get (j := 8) (by simp [depsOf, Region.binds])
                replace hK : ∀ (uu : Value) (w' : World), Below wx.heap.size wx w' → ((Gd wr m room fuse down (some ⟨g, 0, none⟩) cap qs)) w' → (Hb wr) (.inl (.pointer (some ⟨m, 0, none⟩))) uu w' → K _ w' := hK
                simp only [Act.put, List.setIfInBounds_toArray, List.set_cons_zero, List.set_cons_succ, e8] at hK ⊢
                have HK := Lib.hid hK
                have HG := Lib.hid hG
                clear hK hd e8
                clear hG
                go_simp
                exact HK.out _ _ (Below.refl _ _) HG.out rfl
              · intro vs wx hG hd K hK
                have e9 : vs 9 = .pointer (some ⟨m, 0, none⟩) := hd.get (j := 9) (by simp [depsOf, Region.binds])
                replace hK : ∀ (uu : Value) (w' : World), Below wx.heap.size wx w' → ((Gd wr m room fuse down (some ⟨g, 0, none⟩) cap qs)) w' → (Hb wr) (.inl (.pointer (some ⟨m, 1, none⟩))) uu w' → K _ w' := hK
                simp only [Act.put, List.setIfInBounds_toArray, List.set_cons_zero, List.set_cons_succ, e9] at hK ⊢
                have HK := Lib.hid hK
                have HG := Lib.hid hG
                clear hK hd e9
                clear hG
                go_simp
                exact HK.out _ _ (Below.refl _ _) HG.out rfl
              · intro vs wx hG hd K hK
                have e10 : vs 10 = .pointer (some ⟨m, 1, none⟩) := hd.get (j := 10) (by simp [depsOf, Region.binds])
                replace hK : ∀ (uu : Value) (w' : World), Below wx.heap.size wx w' → ((Gd wr m room fuse down (some ⟨g, 0, none⟩) cap qs)) w' → (Hb wr) (.inl (.slice (some ⟨g, 0, none⟩) qs.length cap)) uu w' → K _ w' := hK
                simp only [Act.put, List.setIfInBounds_toArray, List.set_cons_zero, List.set_cons_succ, e10] at hK ⊢
                have HK := Lib.hid hK
                have HG := Lib.hid hG
                clear hK hd e10
                have gc1 := HG.out.c1
                obtain ⟨gs, _⟩ := HG.out.slot hiq
                have gs1 := gs 1 _ rfl
                have gs2 := gs 2 _ rfl
                clear hG gs
                go_simp
                exact HK.out _ _ (Below.refl _ _) HG.out rfl
              · intro vs wx hG hd K hK
                replace hK : ∀ (uu : Value) (w' : World), Below wx.heap.size wx w' → ((Gd wr m room fuse down (some ⟨g, 0, none⟩) cap qs)) w' → (Hb wr) (.inl (.int .i64 (i : Int))) uu w' → K _ w' := hK
                simp only [Act.put, List.setIfInBounds_toArray, List.set_cons_zero, List.set_cons_succ] at hK ⊢
                have HK := Lib.hid hK
                have HG := Lib.hid hG
                clear hK hd
                clear hG
                go_simp
                exact HK.out _ _ (Below.refl _ _) HG.out rfl
              · intro vs wx hG hd K hK
                have e11 : vs 11 = .slice (some ⟨g, 0, none⟩) qs.length cap := hd.get (j := 11) (by simp [depsOf, Region.binds])
                have e12 : vs 12 = .int .i64 (i : Int) := hd.get (j := 12) (by simp [depsOf, Region.binds])
                replace hK : ∀ (uu : Value) (w' : World), Below wx.heap.size wx w' → ((Gd wr m room fuse down (some ⟨g, 0, none⟩) cap qs)) w' → (Hb wr) (.inl (.pointer (some ⟨g, i * 4, none⟩))) uu w' → K _ w' := hK
                simp only [Act.put, List.setIfInBounds_toArray, List.set_cons_zero, List.set_cons_succ, e11, e12] at hK ⊢
                have HK := Lib.hid hK
                have HG := Lib.hid hG
                clear hK hd e11 e12
                clear hG
                go_simp
                exact HK.out _ _ (Below.refl _ _) HG.out rfl
              · intro vs wx hG hd K hK
                have e13 : vs 13 = .pointer (some ⟨g, i * 4, none⟩) := hd.get (j := 13) (by simp [depsOf, Region.binds])
                replace hK : ∀ (uu : Value) (w' : World), Below wx.heap.size wx w' → ((Gd wr m room fuse down (some ⟨g, 0, none⟩) cap qs)) w' → (Hb wr) (.inl (.pointer (some ⟨g, i * 4 + 2, none⟩))) uu w' → K _ w' := hK
                simp only [Act.put, List.setIfInBounds_toArray, List.set_cons_zero, List.set_cons_succ, e13] at hK ⊢
                have HK := Lib.hid hK
                have HG := Lib.hid hG
                clear hK hd e13
                clear hG
                go_simp
                exact HK.out _ _ (Below.refl _ _) HG.out rfl
              · intro vs wx hG hd K hK
                have e14 : vs 14 = .pointer (some ⟨g, i * 4 + 2, none⟩) := hd.get (j := 14) (by simp [depsOf, Region.binds])
                replace hK : ∀ (uu : Value) (w' : World), Below wx.heap.size wx w' → ((Gd wr m room fuse down (some ⟨g, 0, none⟩) cap qs)) w' → (Hb wr) (.inl (.slice q.B (q.x.b.length - q.x.l) q.d)) uu w' → K _ w' := hK
                simp only [Act.put, List.setIfInBounds_toArray, List.set_cons_zero, List.set_cons_succ, e14] at hK ⊢
                have HK := Lib.hid hK
                have HG := Lib.hid hG
                clear hK hd e14
                have gc1 := HG.out.c1
                obtain ⟨gs, _⟩ := HG.out.slot hiq
                have gs1 := gs 1 _ rfl
                have gs2 := gs 2 _ rfl
                clear hG gs
                go_simp
                exact HK.out _ _ (Below.refl _ _) HG.out rfl
              · intro vs wx hG hd K hK
                replace hK : ∀ (uu : Value) (w' : World), Below wx.heap.size wx w' → ((Gd wr m room fuse down (some ⟨g, 0, none⟩) cap qs)) w' → (Hb wr) (.inl (.int .i64 (mn : Int))) uu w' → K _ w' := hK
                simp only [Act.put, List.setIfInBounds_toArray, List.set_cons_zero, List.set_cons_succ] at hK ⊢
                have HK := Lib.hid hK
                have HG := Lib.hid hG
                clear hK hd
                clear hG
                go_simp
                exact HK.out _ _ (Below.refl _ _) HG.out rfl
              · intro vs wx hG hd K hK
                have e15 : vs 15 = .slice q.B (q.x.b.length - q.x.l) q.d := hd.get (j := 15) (by simp [depsOf, Region.binds])
                have e16 : vs 16 = .int .i64 (mn : Int) := hd.get (j := 16) (by simp [depsOf, Region.binds])
                replace hK : ∀ (uu : Value) (w' : World), Below wx.heap.size wx w' → ((Gd wr m room fuse down (some ⟨g, 0, none⟩) cap qs)) w' → (Hb wr) (.inl (.slice q.B mn q.d)) uu w' → K _ w' := hK
                simp only [Act.put, List.setIfInBounds_toArray, List.set_cons_zero, List.set_cons_succ, e15, e16] at hK ⊢
                have HK := Lib.hid hK
                have HG := Lib.hid hG
                clear hK hd e15 e16
                clear hG
                have hs1 := HS1.out wx
                go_simp
                exact HK.out _ _ (Below.refl _ _) HG.out rfl
              · intro vs wx hG hd K hK
                have e7 : vs 7 = .slice q.A q.x.l q.c := hd.get (j := 7) (by simp [depsOf, Region.binds])
                have e17 : vs 17 = .slice q.B mn q.d := hd.get (j := 17) (by simp [depsOf, Region.binds])
                replace hK : ∀ (uu : Value) (w' : World), Below wx.heap.size wx w' → ((Gd wr m room fuse down (some ⟨g, 0, none⟩) cap qs)) w' → (Hb wr) (.inr bb) uu w' → K _ w' := hK
                simp only [Act.put, List.setIfInBounds_toArray, List.set_cons_zero, List.set_cons_succ, e7, e17] at hK ⊢
                have HK := Lib.hid hK
                have HG := Lib.hid hG
                clear hK hd e7 e17
                clear hG
                go_simp
                go_at_call 42
                refine (HJ.out _ HG.out.bel).mono ?_
                rintro e w9 ⟨A9, c9, rfl, ho, hb⟩
                exact HK.out _ _ hb (HG.out.below hb) ⟨A9, c9, rfl, ho.more HG.out.bel.size⟩
              · intro vs wx hG hd K hK
                obtain ⟨A18, c18, e18, q18⟩ : ∃ Aq cq, vs 18 = .slice Aq bb.length cq ∧ Ob wx wr.heap.size (.slice Aq bb.length cq) bb := hd.get (j := 18) (by simp [depsOf, Region.binds])
                replace hK : ∀ (uu : Value) (w' : World), Below wx.heap.size wx w' → ((Gd wr m room fuse down (some ⟨g, 0, none⟩) cap qs)) w' → (Hb wr) (.inr bb) uu w' → K _ w' := hK
                simp only [Act.put, List.setIfInBounds_toArray, List.set_cons_zero, List.set_cons_succ, e18] at hK ⊢
                have HK := Lib.hid hK
                have HG := Lib.hid hG
                clear hK hd e18
                clear hG
                go_simp
                exact HK.out _ _ (Below.refl _ _) HG.out ⟨A18, c18, rfl, q18⟩
            case hend =>
              intro vs wx hG hv
              obtain ⟨A9, c9, e19, ho⟩ : ∃ A c, vs 19 = .slice A bb.length c ∧ Ob wx wr.heap.size (.slice A bb.length c) bb := hv 19 (by decide)
              rw [e19]
              clear hv e19
              have hol := ho.bs.1.le
              have hom := ho.bs.1.max
              unfold maxLen at hom
              have HO9 := Lib.hid ho
              have HG := Lib.hid hG
              have HC2 := Lib.hid (HC.out.below hG.bel)
              have d1 := hG.c1
              obtain ⟨us, _⟩ := hG.slot hiq
              have u0 : wx.cell? ⟨g, i * 4, none⟩ = some (.int .i64 q.x.n) := us 0 _ rfl
              have u3 : wx.cell? ⟨g, i * 4 + 3, none⟩ = some (.bool q.x.k) := us 3 _ rfl
              have z2 : w.heap.size ≤ wx.heap.size := Nat.le_trans z1 hG.bel.size
              clear ho hG us
              by_cases hb0 : 0 < bb.length
              · have HE := Lib.hid (HTN.out.trans (by rw [if_pos (Or.inr hb0)]))
                have hb1 : (0 : Int) < (bb.length : Int) := by omega
                have HSO := Lib.hid HC2.out.so
                have HBL := Lib.hid HC2.out.bl
                have HL := Lib.hid HC2.out.len.symm
                go_wp2_with (at_builtin; refine wpList_pushE Try.underlying59 info_sg rfl (by decide) wx rfl (.tmp 84) (.tmp 95) rfl w.heap.size (.slice B k c) rs rfl HSO.out ⟨⟨q.x.n, bb, bb.length, true⟩, A9, c9, none, 0⟩ #[.int .i64 q.x.n, .slice A9 bb.length c9, .slice none 0 0, .bool true] (by simp [encQ]) rfl (encQ_one _) _ wx.heap.size rfl rfl (k + 1) (by rw [HL.out]) (by unfold maxLen; omega) (by omega) z2 ?_; intro A2 cap2 w2 hps2 hgrow2 hat2; have B2 : Below w.heap.size w w2 := grown_below HBL.out hgrow2 z2 (fun _ h => (HSO.out.lt _ h).1))
                go_roundw
                case rel => exact ⟨i + 1, k + 1, cap2, A2, rs ++ [⟨⟨q.x.n, bb, bb.length, true⟩, A9, c9, none, 0⟩], by omega, by go_num, rfl, Lib.hid (HC.out.push HG.out.bel HO9.out hps2 B2 hgrow2 hat2 HE.out)⟩
                case measure => simp [intOf]; omega
              · cases hqk : q.x.k with
                | true =>
                  have HE := Lib.hid (HTN.out.trans (by rw [if_pos (Or.inl hqk)]))
                  rw [hqk] at u3
                  clear hqk
                  have HSO := Lib.hid HC2.out.so
                  have HBL := Lib.hid HC2.out.bl
                  have HL := Lib.hid HC2.out.len.symm
                  go_wp2_with (at_builtin; refine wpList_pushE Try.underlying59 info_sg rfl (by decide) wx rfl (.tmp 84) (.tmp 95) rfl w.heap.size (.slice B k c) rs rfl HSO.out ⟨⟨q.x.n, bb, bb.length, true⟩, A9, c9, none, 0⟩ #[.int .i64 q.x.n, .slice A9 bb.length c9, .slice none 0 0, .bool true] (by simp [encQ]) rfl (encQ_one _) _ wx.heap.size rfl rfl (k + 1) (by rw [HL.out]) (by unfold maxLen; omega) (by omega) z2 ?_; intro A2 cap2 w2 hps2 hgrow2 hat2; have B2 : Below w.heap.size w w2 := grown_below HBL.out hgrow2 z2 (fun _ h => (HSO.out.lt _ h).1))
                  go_roundw
                  case rel => exact ⟨i + 1, k + 1, cap2, A2, rs ++ [⟨⟨q.x.n, bb, bb.length, true⟩, A9, c9, none, 0⟩], by omega, by go_num, rfl, Lib.hid (HC.out.push HG.out.bel HO9.out hps2 B2 hgrow2 hat2 HE.out)⟩
                  case measure => simp [intOf]; omega
                | false =>
                  have HE := Lib.hid (HTN.out.trans (by rw [if_neg (by rintro (h | h); (rw [hqk] at h; cases h); exact hb0 h)]))
                  rw [hqk] at u3
                  clear hqk
                  have hb1 : ¬ (0 : Int) < (bb.length : Int) := by omega
                  go_wp2_with fail
                  go_roundw
                  case rel => exact ⟨i + 1, k, c, B, rs, by omega, by go_num, rfl, Lib.hid (HC.out.none_ HG.out.bel HE.out)⟩
                  case measure => simp [intOf]; omega
          · obtain ⟨bb, hbb, HJ, HTN, HS1⟩ := HALL.out (q.x.b.length - q.x.l) (by omega)
            have b5 : decide (0 < mn) = true := by simp; omega
            have b6 : decide (q.x.b.length - q.x.l < mn) = true := by simp; omega
            have b7 : q.x.b.length - q.x.l < mn := by omega
            clear hmn
            clear HALL HCS HGQ HL1 HL2
            go_wp2_with fail
            apply region_V (Hb wr) (Gd wr m room fuse down (some ⟨g, 0, none⟩) cap qs) [.inl (.pointer (some ⟨m, 0, none⟩)), .inl (.pointer (some ⟨m, 0, none⟩)), .inl (.pointer (some ⟨m, 1, none⟩)), .inl (.slice (some ⟨g, 0, none⟩) qs.length cap), .inl (.int .i64 (i : Int)), .inl (.pointer (some ⟨g, i * 4, none⟩)), .inl (.pointer (some ⟨g, i * 4 + 1, none⟩)), .inl (.slice q.A q.x.l q.c), .inl (.pointer (some ⟨m, 0, none⟩)), .inl (.pointer (some ⟨m, 0, none⟩)), .inl (.pointer (some ⟨m, 1, none⟩)), .inl (.slice (some ⟨g, 0, none⟩) qs.length cap), .inl (.int .i64 (i : Int)), .inl (.pointer (some ⟨g, i * 4, none⟩)), .inl (.pointer (some ⟨g, i * 4 + 2, none⟩)), .inl (.slice q.B (q.x.b.length - q.x.l) q.d), .inl (.int .i64 ((q.x.b.length - q.x.l : Nat) : Int)), .inl (.slice q.B (q.x.b.length - q.x.l) q.d), .inr bb, .inr bb] (.inl undef)
            case mono => exact fun p v w0 w9 h hb => Hb.mono h hb
            case hm => kernel_rfl
            case hf => kernel_rfl
            case hQ => exact (by intro c x y w e h; exact And.intro (e.symm.trans (And.left h)) (And.right h))
            case hF => intro vs; simp only [putAll, Act.put, List.setIfInBounds_toArray, List.set_cons_zero, List.set_cons_succ, Nat.reduceAdd]; rfl
            case h0 => exact ⟨H2.out.below ⟨rfl, rfl, rfl, Nat.le_refl _, fun _ _ => rfl⟩, ⟨rfl, rfl, rfl, Nat.le_refl _, fun _ _ => rfl⟩⟩
            case hstep =>
              repeat' (first | exact AllOps.nil | apply AllOps.cons)
              · intro vs wx hG hd K hK
                replace hK : ∀ (uu : Value) (w' : World), Below wx.heap.size wx w' → ((Gd wr m room fuse down (some ⟨g, 0, none⟩) cap qs)) w' → (Hb wr) (.inl (.pointer (some ⟨m, 0, none⟩))) uu w' → K _ w' := hK
                simp only [Act.put, List.setIfInBounds_toArray, List.set_cons_zero, List.set_cons_succ] at hK ⊢
                have HK := Lib.hid hK
                have HG := Lib.hid hG
                clear hK hd
                clear hG
                go_simp
                exact HK.out _ _ (Below.refl _ _) HG.out rfl
              · intro vs wx hG hd K hK
                have e0 : vs 0 = .pointer (some ⟨m, 0, none⟩) := hd.get (j := 0) (by simp [depsOf, Region.binds])
                replace hK : ∀ (uu : Value) (w' : World), Below wx.heap.size wx w' → ((Gd wr m room fuse down (some ⟨g, 0, none⟩) cap qs)) w' → (Hb wr) (.inl (.pointer (some ⟨m, 0, none⟩))) uu w' → K _ w' := hK
                simp only [Act.put, List.setIfInBounds_toArray, List.set_cons_zero, List.set_cons_succ, e0] at hK ⊢
                have HK := Lib.hid hK
                have HG := Lib.hid hG
                clear hK hd e0
                clear hG
                go_simp
                exact HK.out _ _ (Below.refl _ _) HG.out rfl
              · intro vs wx hG hd K hK
                have e1 : vs 1 = .pointer (some ⟨m, 0, none⟩) := hd.get (j := 1) (by simp [depsOf, Region.binds])
                replace hK : ∀ (uu : Value) (w' : World), Below wx.heap.size wx w' → ((Gd wr m room fuse down (some ⟨g, 0, none⟩) cap qs)) w' → (Hb wr) (.inl (.pointer (some ⟨m, 1, none⟩))) uu w' → K _ w' := hK
                simp only [Act.put, List.setIfInBounds_toArray, List.set_cons_zero, List.set_cons_succ, e1] at hK ⊢
                have HK := Lib.hid hK
                have HG := Lib.hid hG
                clear hK hd e1
                clear hG
                go_simp
                exact HK.out _ _ (Below.refl _ _) HG.out rfl
              · intro vs wx hG hd K hK
                have e2 : vs 2 = .pointer (some ⟨m, 1, none⟩) := hd.get (j := 2) (by simp [depsOf, Region.binds])
                replace hK : ∀ (uu : Value) (w' : World), Below wx.heap.size wx w' → ((Gd wr m room fuse down (some ⟨g, 0, none⟩) cap qs)) w' → (Hb wr) (.inl (.slice (some ⟨g, 0, none⟩) qs.length cap)) uu w' → K _ w' := hK
                simp only [Act.put, List.setIfInBounds_toArray, List.set_cons_zero, List.set_cons_succ, e2] at hK ⊢
                have HK := Lib.hid hK
                have HG := Lib.hid hG
                clear hK hd e2
                have gc1 := HG.out.c1
                obtain ⟨gs, _⟩ := HG.out.slot hiq
                have gs1 := gs 1 _ rfl
                have gs2 := gs 2 _ rfl
                clear hG gs
                go_simp
                exact HK.out _ _ (Below.refl _ _) HG.out rfl
              · intro vs wx hG hd K hK
                replace hK : ∀ (uu : Value) (w' : World), Below wx.heap.size wx w' → ((Gd wr m room fuse down (some ⟨g, 0, none⟩) cap qs)) w' → (Hb wr) (.inl (.int .i64 (i : Int))) uu w' → K _ w' := hK
                simp only [Act.put, List.setIfInBounds_toArray, List.set_cons_zero, List.set_cons_succ] at hK ⊢
                have HK := Lib.hid hK
                have HG := Lib.hid hG
                clear hK hd
                clear hG
                go_simp
                exact HK.out _ _ (Below.refl _ _) HG.out rfl
              · intro vs wx hG hd K hK
                have e3 : vs 3 = .slice (some ⟨g, 0, none⟩) qs.length cap := hd.get (j := 3) (by simp [depsOf, Region.binds])
                have e4 : vs 4 = .int .i64 (i : Int) := hd.get (j := 4) (by simp [depsOf, Region.binds])
                replace hK : ∀ (uu : Value) (w' : World), Below wx.heap.size wx w' → ((Gd wr m room fuse down (some ⟨g, 0, none⟩) cap qs)) w' → (Hb wr) (.inl (.pointer (some ⟨g, i * 4, none⟩))) uu w' → K _ w' := hK
                simp only [Act.put, List.setIfInBounds_toArray, List.set_cons_zero, List.set_cons_succ, e3, e4] at hK ⊢
                have HK := Lib.hid hK
                have HG := Lib.hid hG
                clear hK hd e3 e4
                clear hG
                go_simp
                exact HK.out _ _ (Below.refl _ _) HG.out rfl
              · intro vs wx hG hd K hK
                have e5 : vs 5 = .pointer (some ⟨g, i * 4, none⟩) := hd.get (j := 5) (by simp [depsOf, Region.binds])
                replace hK : ∀ (uu : Value) (w' : World), Below wx.heap.size wx w' → ((Gd wr m room fuse down (some ⟨g, 0, none⟩) cap qs)) w' → (Hb wr) (.inl (.pointer (some ⟨g, i * 4 + 1, none⟩))) uu w' → K _ w' := hK
                simp only [Act.put, List.setIfInBounds_toArray, List.set_cons_zero, List.set_cons_succ, e5] at hK ⊢
                have HK := Lib.hid hK
                have HG := Lib.hid hG
                clear hK hd e5
                clear hG
                go_simp
                exact HK.out _ _ (Below.refl _ _) HG.out rfl
              · intro vs wx hG hd K hK
                have e6 : vs 6 = .pointer (some ⟨g, i * 4 + 1, none⟩) := hd.get (j := 6) (by simp [depsOf, Region.binds])
                replace hK : ∀ (uu : Value) (w' : World), Below wx.heap.size wx w' → ((Gd wr m room fuse down (some ⟨g, 0, none⟩) cap qs)) w' → (Hb wr) (.inl (.slice q.A q.x.l q.c)) uu w' → K _ w' := hK
                simp only [Act.put, List.setIfInBounds_toArray, List.set_cons_zero, List.set_cons_succ, e6] at hK ⊢
                have HK := Lib.hid hK
                have HG := Lib.hid hG
                clear hK hd e6
                have gc1 := HG.out.c1
                obtain ⟨gs, _⟩ := HG.out.slot hiq
                have gs1 := gs 1 _ rfl
                have gs2 := gs 2 _ rfl
                clear hG gs
                go_simp
                exact HK.out _ _ (Below.refl _ _) HG.out rfl
              · intro vs wx hG hd K hK
                replace hK : ∀ (uu : Value) (w' : World), Below wx.heap.size wx w' → ((Gd wr m room fuse down (some ⟨g, 0, none⟩) cap qs)) w' → (Hb wr) (.inl (.pointer (some ⟨m, 0, none⟩))) uu w' → K _ w' := hK
                simp only [Act.put, List.setIfInBounds_toArray, List.set_cons_zero, List.set_cons_succ] at hK ⊢
                have HK := Lib.hid hK
                have HG := Lib.hid hG
                clear hK hd
                clear hG
                go_simp
                exact HK.out _ _ (Below.refl _ _) HG.out rfl
              · intro vs wx hG hd K hK
                have e8 : vs 8 = .pointer (some ⟨m, 0, none⟩) := hd.get (j := 8) (by simp [depsOf, Region.binds])
                replace hK : ∀ (uu : Value) (w' : World), Below wx.heap.size wx w' → ((Gd wr m room fuse down (some ⟨g, 0, none⟩) cap qs)) w' → (Hb wr) (.inl (.pointer (some ⟨m, 0, none⟩))) uu w' → K _ w' := hK
                simp only [Act.put, List.setIfInBounds_toArray, List.set_cons_zero, List.set_cons_succ, e8] at hK ⊢
                have HK := Lib.hid hK
                have HG := Lib.hid hG
                clear hK hd e8
                clear hG
                go_simp
                exact HK.out _ _ (Below.refl _ _) HG.out rfl
              · intro vs wx hG hd K hK
                have e9 : vs 9 = .pointer (some ⟨m, 0, none⟩) := hd.get (j := 9) (by simp [depsOf, Region.binds])
                replace hK : ∀ (uu : Value) (w' : World), Below wx.heap.size wx w' → ((Gd wr m room fuse down (some ⟨g, 0, none⟩) cap qs)) w' → (Hb wr) (.inl (.pointer (some ⟨m, 1, none⟩))) uu w' → K _ w' := hK
                simp only [Act.put, List.setIfInBounds_toArray, List.set_cons_zero, List.set_cons_succ, e9] at hK ⊢
                have HK := Lib.hid hK
                have HG := Lib.hid hG
                clear hK hd e9
                clear hG
                go_simp
                exact HK.out _ _ (Below.refl _ _) HG.out rfl
              · intro vs wx hG hd K hK
                have e10 : vs 10 = .pointer (some ⟨m, 1, none⟩) := hd.get (j := 10) (by simp [depsOf, Region.binds])
                replace hK : ∀ (uu : Value) (w' : World), Below wx.heap.size wx w' → ((Gd wr m room fuse down (some ⟨g, 0, none⟩) cap qs)) w' → (Hb wr) (.inl (.slice (some ⟨g, 0, none⟩) qs.length cap)) uu w' → K _ w' := hK
                simp only [Act.put, List.setIfInBounds_toArray, List.set_cons_zero, List.set_cons_succ, e10] at hK ⊢
                have HK := Lib.hid hK
                have HG := Lib.hid hG
                clear hK hd e10
                have gc1 := HG.out.c1
                obtain ⟨gs, _⟩ := HG.out.slot hiq
                have gs1 := gs 1 _ rfl
                have gs2 := gs 2 _ rfl
                clear hG gs
                go_simp
                exact HK.out _ _ (Below.refl _ _) HG.out rfl
              · intro vs wx hG hd K hK
                replace hK : ∀ (uu : Value) (w' : World), Below wx.heap.size wx w' → ((Gd wr m room fuse down (some ⟨g, 0, none⟩) cap qs)) w' → (Hb wr) (.inl (.int .i64 (i : Int))) uu w' → K _ w' := hK
                simp only [Act.put, List.setIfInBounds_toArray, List.set_cons_zero, List.set_cons_succ] at hK ⊢
                have HK := Lib.hid hK
                have HG := Lib.hid hG
                clear hK hd
                clear hG
                go_simp
                exact HK.out _ _ (Below.refl _ _) HG.out rfl
              · intro vs wx hG hd K hK
                have e11 : vs 11 = .slice (some ⟨g, 0, none⟩) qs.length cap := hd.get (j := 11) (by simp [depsOf, Region.binds])
                have e12 : vs 12 = .int .i64 (i : Int) := hd.get (j := 12) (by simp [depsOf, Region.binds])
                replace hK : ∀ (uu : Value) (w' : World), Below wx.heap.size wx w' → ((Gd wr m room fuse down (some ⟨g, 0, none⟩) cap qs)) w' → (Hb wr) (.inl (.pointer (some ⟨g, i * 4, none⟩))) uu w' → K _ w' := hK
                simp only [Act.put, List.setIfInBounds_toArray, List.set_cons_zero, List.set_cons_succ, e11, e12] at hK ⊢
                have HK := Lib.hid hK
                have HG := Lib.hid hG
                clear hK hd e11 e12
                clear hG
                go_simp
                exact HK.out _ _ (Below.refl _ _) HG.out rfl
              · intro vs wx hG hd K hK
                have e13 : vs 13 = .pointer (some ⟨g, i * 4, none⟩) := hd.get (j := 13) (by simp [depsOf, Region.binds])
                replace hK : ∀ (uu : Value) (w' : World), Below wx.heap.size wx w' → ((Gd wr m room fuse down (some ⟨g, 0, none⟩) cap qs)) w' → (Hb wr) (.inl (.pointer (some ⟨g, i * 4 + 2, none⟩))) uu w' → K _ w' := hK
                simp only [Act.put, List.setIfInBounds_toArray, List.set_cons_zero, List.set_cons_succ, e13] at hK ⊢
                have HK := Lib.hid hK
                have HG := Lib.hid hG
                clear hK hd e13
                clear hG
                go_simp
                exact HK.out _ _ (Below.refl _ _) HG.out rfl
              · intro vs wx hG hd K hK
                have e14 : vs 14 = .pointer (some ⟨g, i * 4 + 2, none⟩) := hd.get (j := 14) (by simp [depsOf, Region.binds])
                replace hK : ∀ (uu : Value) (w' : World), Below wx.heap.size wx w' → ((Gd wr m room fuse down (some ⟨g, 0, none⟩) cap qs)) w' → (Hb wr) (.inl (.slice q.B (q.x.b.length - q.x.l) q.d)) uu w' → K _ w' := hK
                simp only [Act.put, List.setIfInBounds_toArray, List.set_cons_zero, List.set_cons_succ, e14] at hK ⊢
                have HK := Lib.hid hK
                have HG := Lib.hid hG
                clear hK hd e14
                have gc1 := HG.out.c1
                obtain ⟨gs, _⟩ := HG.out.slot hiq
                have gs1 := gs 1 _ rfl
                have gs2 := gs 2 _ rfl
                clear hG gs
                go_simp
                exact HK.out _ _ (Below.refl _ _) HG.out rfl
              · intro vs wx hG hd K hK
                replace hK : ∀ (uu : Value) (w' : World), Below wx.heap.size wx w' → ((Gd wr m room fuse down (some ⟨g, 0, none⟩) cap qs)) w' → (Hb wr) (.inl (.int .i64 ((q.x.b.length - q.x.l : Nat) : Int))) uu w' → K _ w' := hK
                simp only [Act.put, List.setIfInBounds_toArray, List.set_cons_zero, List.set_cons_succ] at hK ⊢
                have HK := Lib.hid hK
                have HG := Lib.hid hG
                clear hK hd
                clear hG
                go_simp
                exact HK.out _ _ (Below.refl _ _) HG.out rfl
              · intro vs wx hG hd K hK
                have e15 : vs 15 = .slice q.B (q.x.b.length - q.x.l) q.d := hd.get (j := 15) (by simp [depsOf, Region.binds])
                have e16 : vs 16 = .int .i64 ((q.x.b.length - q.x.l : Nat) : Int) := hd.get (j := 16) (by simp [depsOf, Region.binds])
                replace hK : ∀ (uu : Value) (w' : World), Below wx.heap.size wx w' → ((Gd wr m room fuse down (some ⟨g, 0, none⟩) cap qs)) w' → (Hb wr) (.inl (.slice q.B (q.x.b.length - q.x.l) q.d)) uu w' → K _ w' := hK
                simp only [Act.put, List.setIfInBounds_toArray, List.set_cons_zero, List.set_cons_succ, e15, e16] at hK ⊢
                have HK := Lib.hid hK
                have HG := Lib.hid hG
                clear hK hd e15 e16
                clear hG
                have hs1 := HS1.out wx
                go_simp
                exact HK.out _ _ (Below.refl _ _) HG.out rfl
              · intro vs wx hG hd K hK
                have e7 : vs 7 = .slice q.A q.x.l q.c := hd.get (j := 7) (by simp [depsOf, Region.binds])
                have e17 : vs 17 = .slice q.B (q.x.b.length - q.x.l) q.d := hd.get (j := 17) (by simp [depsOf, Region.binds])
                replace hK : ∀ (uu : Value) (w' : World), Below wx.heap.size wx w' → ((Gd wr m room fuse down (some ⟨g, 0, none⟩) cap qs)) w' → (Hb wr) (.inr bb) uu w' → K _ w' := hK
                simp only [Act.put, List.setIfInBounds_toArray, List.set_cons_zero, List.set_cons_succ, e7, e17] at hK ⊢
                have HK := Lib.hid hK
                have HG := Lib.hid hG
                clear hK hd e7 e17
                clear hG
                go_simp
                go_at_call 42
                refine (HJ.out _ HG.out.bel).mono ?_
                rintro e w9 ⟨A9, c9, rfl, ho, hb⟩
                exact HK.out _ _ hb (HG.out.below hb) ⟨A9, c9, rfl, ho.more HG.out.bel.size⟩
              · intro vs wx hG hd K hK
                obtain ⟨A18, c18, e18, q18⟩ : ∃ Aq cq, vs 18 = .slice Aq bb.length cq ∧ Ob wx wr.heap.size (.slice Aq bb.length cq) bb := hd.get (j := 18) (by simp [depsOf, Region.binds])
                replace hK : ∀ (uu : Value) (w' : World), Below wx.heap.size wx w' → ((Gd wr m room fuse down (some ⟨g, 0, none⟩) cap qs)) w' → (Hb wr) (.inr bb) uu w' → K _ w' := hK
                simp only [Act.put, List.setIfInBounds_toArray, List.set_cons_zero, List.set_cons_succ, e18] at hK ⊢
                have HK := Lib.hid hK
                have HG := Lib.hid hG
                clear hK hd e18
                clear hG
                go_simp
                exact HK.out _ _ (Below.refl _ _) HG.out ⟨A18, c18, rfl, q18⟩
            case hend =>
              intro vs wx hG hv
              obtain ⟨A9, c9, e19, ho⟩ : ∃ A c, vs 19 = .slice A bb.length c ∧ Ob wx wr.heap.size (.slice A bb.length c) bb := hv 19 (by decide)
              rw [e19]
              clear hv e19
              have hol := ho.bs.1.le
              have hom := ho.bs.1.max
              unfold maxLen at hom
              have HO9 := Lib.hid ho
              have HG := Lib.hid hG
              have HC2 := Lib.hid (HC.out.below hG.bel)
              have d1 := hG.c1
              obtain ⟨us, _⟩ := hG.slot hiq
              have u0 : wx.cell? ⟨g, i * 4, none⟩ = some (.int .i64 q.x.n) := us 0 _ rfl
              have u3 : wx.cell? ⟨g, i * 4 + 3, none⟩ = some (.bool q.x.k) := us 3 _ rfl
              have z2 : w.heap.size ≤ wx.heap.size := Nat.le_trans z1 hG.bel.size
              clear ho hG us
              by_cases hb0 : 0 < bb.length
              · have HE := Lib.hid (HTN.out.trans (by rw [if_pos (Or.inr hb0)]))
                have hb1 : (0 : Int) < (bb.length : Int) := by omega
                have HSO := Lib.hid HC2.out.so
                have HBL := Lib.hid HC2.out.bl
                have HL := Lib.hid HC2.out.len.symm
                go_wp2_with (at_builtin; refine wpList_pushE Try.underlying59 info_sg rfl (by decide) wx rfl (.tmp 84) (.tmp 95) rfl w.heap.size (.slice B k c) rs rfl HSO.out ⟨⟨q.x.n, bb, bb.length, true⟩, A9, c9, none, 0⟩ #[.int .i64 q.x.n, .slice A9 bb.length c9, .slice none 0 0, .bool true] (by simp [encQ]) rfl (encQ_one _) _ wx.heap.size rfl rfl (k + 1) (by rw [HL.out]) (by unfold maxLen; omega) (by omega) z2 ?_; intro A2 cap2 w2 hps2 hgrow2 hat2; have B2 : Below w.heap.size w w2 := grown_below HBL.out hgrow2 z2 (fun _ h => (HSO.out.lt _ h).1))
                go_roundw
                case rel => exact ⟨i + 1, k + 1, cap2, A2, rs ++ [⟨⟨q.x.n, bb, bb.length, true⟩, A9, c9, none, 0⟩], by omega, by go_num, rfl, Lib.hid (HC.out.push HG.out.bel HO9.out hps2 B2 hgrow2 hat2 HE.out)⟩
                case measure => simp [intOf]; omega
              · cases hqk : q.x.k with
                | true =>
                  have HE := Lib.hid (HTN.out.trans (by rw [if_pos (Or.inl hqk)]))
                  rw [hqk] at u3
                  clear hqk
                  have HSO := Lib.hid HC2.out.so
                  have HBL := Lib.hid HC2.out.bl
                  have HL := Lib.hid HC2.out.len.symm
                  go_wp2_with (at_builtin; refine wpList_pushE Try.underlying59 info_sg rfl (by decide) wx rfl (.tmp 84) (.tmp 95) rfl w.heap.size (.slice B k c) rs rfl HSO.out ⟨⟨q.x.n, bb, bb.length, true⟩, A9, c9, none, 0⟩ #[.int .i64 q.x.n, .slice A9 bb.length c9, .slice none 0 0, .bool true] (by simp [encQ]) rfl (encQ_one _) _ wx.heap.size rfl rfl (k + 1) (by rw [HL.out]) (by unfold maxLen; omega) (by omega) z2 ?_; intro A2 cap2 w2 hps2 hgrow2 hat2; have B2 : Below w.heap.size w w2 := grown_below HBL.out hgrow2 z2 (fun _ h => (HSO.out.lt _ h).1))
                  go_roundw
                  case rel => exact ⟨i + 1, k + 1, cap2, A2, rs ++ [⟨⟨q.x.n, bb, bb.length, true⟩, A9, c9, none, 0⟩], by omega, by go_num, rfl, Lib.hid (HC.out.push HG.out.bel HO9.out hps2 B2 hgrow2 hat2 HE.out)⟩
                  case measure => simp [intOf]; omega
                | false =>
                  have HE := Lib.hid (HTN.out.trans (by rw [if_neg (by rintro (h | h); (rw [hqk] at h; cases h); exact hb0 h)]))
                  rw [hqk] at u3
                  clear hqk
                  have hb1 : ¬ (0 : Int) < (bb.length : Int) := by omega
                  go_wp2_with fail
                  go_roundw
                  case rel => exact ⟨i + 1, k, c, B, rs, by omega, by go_num, rfl, Lib.hid (HC.out.none_ HG.out.bel HE.out)⟩
                  case measure => simp [intOf]; omega
        · obtain ⟨bb, hbb, HJ, HTN, HS1⟩ := HALL.out 0 (by omega)
          have b5 : decide (0 < mo) = false := by simp; omega
          clear HALL HCS HGQ HL1 HL2
          go_wp2_with fail
          apply region_V (Hb wr) (Gd wr m room fuse down (some ⟨g, 0, none⟩) cap qs) [.inl (.pointer (some ⟨m, 0, none⟩)), .inl (.pointer (some ⟨m, 0, none⟩)), .inl (.pointer (some ⟨m, 1, none⟩)), .inl (.slice (some ⟨g, 0, none⟩) qs.length cap), .inl (.int .i64 (i : Int)), .inl (.pointer (some ⟨g, i * 4, none⟩)), .inl (.pointer (some ⟨g, i * 4 + 1, none⟩)), .inl (.slice q.A q.x.l q.c), .inl (.pointer (some ⟨m, 0, none⟩)), .inl (.pointer (some ⟨m, 0, none⟩)), .inl (.pointer (some ⟨m, 1, none⟩)), .inl (.slice (some ⟨g, 0, none⟩) qs.length cap), .inl (.int .i64 (i : Int)), .inl (.pointer (some ⟨g, i * 4, none⟩)), .inl (.pointer (some ⟨g, i * 4 + 2, none⟩)), .inl (.slice q.B (q.x.b.length - q.x.l) q.d), .inl (.int .i64 0), .inl (.slice q.B 0 q.d), .inr bb, .inr bb] (.inl undef)
          case mono => exact fun p v w0 w9 h hb => Hb.mono h hb
          case hm => kernel_rfl
          case hf => kernel_rfl
          case hQ => exact (by intro c x y w e h; exact And.intro (e.symm.trans (And.left h)) (And.right h))
          case hF => intro vs; simp only [putAll, Act.put, List.setIfInBounds_toArray, List.set_cons_zero, List.set_cons_succ, Nat.reduceAdd]; rfl
          case h0 => exact ⟨H2.out.below ⟨rfl, rfl, rfl, Nat.le_refl _, fun _ _ => rfl⟩, ⟨rfl, rfl, rfl, Nat.le_refl _, fun _ _ => rfl⟩⟩
          case hstep =>
            repeat' (first | exact AllOps.nil | apply AllOps.cons)
            · intro vs wx hG hd K hK
              replace hK : ∀ (uu : Value) (w' : World), Below wx.heap.size wx w' → ((Gd wr m room fuse down (some ⟨g, 0, none⟩) cap qs)) w' → (Hb wr) (.inl (.pointer (some ⟨m, 0, none⟩))) uu w' → K _ w' := hK
              simp only [Act.put, List.setIfInBounds_toArray, List.set_cons_zero, List.set_cons_succ] at hK ⊢
              have HK := Lib.hid hK
              have HG := Lib.hid hG
              clear hK hd
              clear hG
              go_simp
              exact HK.out _ _ (Below.refl _ _) HG.out rfl
            · intro vs wx hG hd K hK
              have e0 : vs 0 = .pointer (some ⟨m, 0, none⟩) := hd.get (j := 0) (by simp [depsOf, Region.binds])
              replace hK : ∀ (uu : Value) (w' : World), Below wx.heap.size wx w' → ((Gd wr m room fuse down (some ⟨g, 0, none⟩) cap qs)) w' → (Hb wr) (.inl (.pointer (some ⟨m, 0, none⟩))) uu w' → K _ w' := hK
              simp only [Act.put, List.setIfInBounds_toArray, List.set_cons_zero, List.set_cons_succ, e0] at hK ⊢
              have HK := Lib.hid hK
              have HG := Lib.hid hG
              clear hK hd e0
              clear hG
              go_simp
              exact HK.out _ _ (Below.refl _ _) HG.out rfl
            · intro vs wx hG hd K hK
              have e1 : vs 1 = .pointer (some ⟨m, 0, none⟩) := hd.get (j := 1) (by simp [depsOf, Region.binds])
              replace hK : ∀ (uu : Value) (w' : World), Below wx.heap.size wx w' → ((Gd wr m room fuse down (some ⟨g, 0, none⟩) cap qs)) w' → (Hb wr) (.inl (.pointer (some ⟨m, 1, none⟩))) uu w' → K _ w' := hK
              simp only [Act.put, List.setIfInBounds_toArray, List.set_cons_zero, List.set_cons_succ, e1] at hK ⊢
              have HK := Lib.hid hK
              have HG := Lib.hid hG
              clear hK hd e1
              clear hG
              go_simp
              exact HK.out _ _ (Below.refl _ _) HG.out rfl
            · intro vs wx hG hd K hK
              have e2 : vs 2 = .pointer (some ⟨m, 1, none⟩) := hd.get (j := 2) (by simp [depsOf, Region.binds])
              replace hK : ∀ (uu : Value) (w' : World), Below wx.heap.size wx w' → ((Gd wr m room fuse down (some ⟨g, 0, none⟩) cap qs)) w' → (Hb wr) (.inl (.slice (some ⟨g, 0, none⟩) qs.length cap)) uu w' → K _ w' := hK
              simp only [Act.put, List.setIfInBounds_toArray, List.set_cons_zero, List.set_cons_succ, e2] at hK ⊢
              have HK := Lib.hid hK
              have HG := Lib.hid hG
              clear hK hd e2
              have gc1 := HG.out.c1
              obtain ⟨gs, _⟩ := HG.out.slot hiq
              have gs1 := gs 1 _ rfl
              have gs2 := gs 2 _ rfl
              clear hG gs
              go_simp
              exact HK.out _ _ (Below.refl _ _) HG.out rfl
            · intro vs wx hG hd K hK
              replace hK : ∀ (uu : Value) (w' : World), Below wx.heap.size wx w' → ((Gd wr m room fuse down (some ⟨g, 0, none⟩) cap qs)) w' → (Hb wr) (.inl (.int .i64 (i : Int))) uu w' → K _ w' := hK
              simp only [Act.put, List.setIfInBounds_toArray, List.set_cons_zero, List.set_cons_succ] at hK ⊢
              have HK := Lib.hid hK
              have HG := Lib.hid hG
              clear hK hd
              clear hG
              go_simp
              exact HK.out _ _ (Below.refl _ _) HG.out rfl
            · intro vs wx hG hd K hK
              have e3 : vs 3 = .slice (some ⟨g, 0, none⟩) qs.length cap := hd.get (j := 3) (by simp [depsOf, Region.binds])
              have e4 : vs 4 = .int .i64 (i : Int) := hd.get (j := 4) (by simp [depsOf, Region.binds])
              replace hK : ∀ (uu : Value) (w' : World), Below wx.heap.size wx w' → ((Gd wr m room fuse down (some ⟨g, 0, none⟩) cap qs)) w' → (Hb wr) (.inl (.pointer (some ⟨g, i * 4, none⟩))) uu w' → K _ w' := hK
              simp only [Act.put, List.setIfInBounds_toArray, List.set_cons_zero, List.set_cons_succ, e3, e4] at hK ⊢
              have HK := Lib.hid hK
              have HG := Lib.hid hG
              clear hK hd e3 e4
              clear hG
              go_simp
              exact HK.out _ _ (Below.refl _ _) HG.out rfl
            · intro vs wx hG hd K hK
              have e5 : vs 5 = .pointer (some ⟨g, i * 4, none⟩) := hd.get (j := 5) (by simp [depsOf, Region.binds])
              replace hK : ∀ (uu : Value) (w' : World), Below wx.heap.size wx w' → ((Gd wr m room fuse down (some ⟨g, 0, none⟩) cap qs)) w' → (Hb wr) (.inl (.pointer (some ⟨g, i * 4 + 1, none⟩))) uu w' → K _ w' := hK
              simp only [Act.put, List.setIfInBounds_toArray, List.set_cons_zero, List.set_cons_succ, e5] at hK ⊢
              have HK := Lib.hid hK
              have HG := Lib.hid hG
              clear hK hd e5
              clear hG
              go_simp
              exact HK.out _ _ (Below.refl _ _) HG.out rfl
            · intro vs wx hG hd K hK
              have e6 : vs 6 = .pointer (some ⟨g, i * 4 + 1, none⟩) := hd.get (j := 6) (by simp [depsOf, Region.binds])
              replace hK : ∀ (uu : Value) (w' : World), Below wx.heap.size wx w' → ((Gd wr m room fuse down (some ⟨g, 0, none⟩) cap qs)) w' → (Hb wr) (.inl (.slice q.A q.x.l q.c)) uu w' → K _ w' := hK
              simp only [Act.put, List.setIfInBounds_toArray, List.set_cons_zero, List.set_cons_succ, e6] at hK ⊢
              have HK := Lib.hid hK
              have HG := Lib.hid hG
              clear hK hd e6
              have gc1 := HG.out.c1
              obtain ⟨gs, _⟩ := HG.out.slot hiq
              have gs1 := gs 1 _ rfl
              have gs2 := gs 2 _ rfl
              clear hG gs
              go_simp
              exact HK.out _ _ (Below.refl _ _) HG.out rfl
            · intro vs wx hG hd K hK
              replace hK : ∀ (uu : Value) (w' : World), Below wx.heap.size wx w' → ((Gd wr m room fuse down (some ⟨g, 0, none⟩) cap qs)) w' → (Hb wr) (.inl (.pointer (some ⟨m, 0, none⟩))) uu w' → K _ w' := hK
              simp only [Act.put, List.setIfInBounds_toArray, List.set_cons_zero, List.set_cons_succ] at hK ⊢
              have HK := Lib.hid hK
              have HG := Lib.hid hG
              clear hK hd
              clear hG
              go_simp
              exact HK.out _ _ (Below.refl _ _) HG.out rfl
            · intro vs wx hG hd K hK
              have e8 : vs 8 = .pointer (some ⟨m, 0, none⟩) := hd.get (j := 8) (by simp [depsOf, Region.binds])
              replace hK : ∀ (uu : Value) (w' : World), Below wx.heap.size wx w' → ((Gd wr m room fuse down (some ⟨g, 0, none⟩) cap qs)) w' → (Hb wr) (.inl (.pointer (some ⟨m, 0, none⟩))) uu w' → K _ w' := hK
              simp only [Act.put, List.setIfInBounds_toArray, List.set_cons_zero, List.set_cons_succ, e8] at hK ⊢
              have HK := Lib.hid hK
              have HG := Lib.hid hG
              clear hK hd e8
              clear hG
              go_simp
              exact HK.out _ _ (Below.refl _ _) HG.out rfl
            · intro vs wx hG hd K hK
              have e9 : vs 9 = .pointer (some ⟨m, 0, none⟩) := hd.get (j := 9) (by simp [depsOf, Region.binds])
              replace hK : ∀ (uu : Value) (w' : World), Below wx.heap.size wx w' → ((Gd wr m room fuse down (some ⟨g, 0, none⟩) cap qs)) w' → (Hb wr) (.inl (.pointer (some ⟨m, 1, none⟩))) uu w' → K _ w' := hK
              simp only [Act.put, List.setIfInBounds_toArray, List.set_cons_zero, List.set_cons_succ, e9] at hK ⊢
              have HK := Lib.hid hK
              have HG := Lib.hid hG
              clear hK hd e9
              clear hG
              go_simp
              exact HK.out _ _ (Below.refl _ _) HG.out rfl
            · intro vs wx hG hd K hK
              have e10 : vs 10 = .pointer (some ⟨m, 1, none⟩) := hd.get (j := 10) (by simp [depsOf, Region.binds])
              replace hK : ∀ (uu : Value) (w' : World), Below wx.heap.size wx w' → ((Gd wr m room fuse down (some ⟨g, 0, none⟩) cap qs)) w' → (Hb wr) (.inl (.slice (some ⟨g, 0, none⟩) qs.length cap)) uu w' → K _ w' := hK
              simp only [Act.put, List.setIfInBounds_toArray, List.set_cons_zero, List.set_cons_succ, e10] at hK ⊢
              have HK := Lib.hid hK
              have HG := Lib.hid hG
              clear hK hd e10
              have gc1 := HG.out.c1
              obtain ⟨gs, _⟩ := HG.out.slot hiq
              have gs1 := gs 1 _ rfl
              have gs2 := gs 2 _ rfl
              clear hG gs
              go_simp
              exact HK.out _ _ (Below.refl _ _) HG.out rfl
            · intro vs wx hG hd K hK
              replace hK : ∀ (uu : Value) (w' : World), Below wx.heap.size wx w' → ((Gd wr m room fuse down (some ⟨g, 0, none⟩) cap qs)) w' → (Hb wr) (.inl (.int .i64 (i : Int))) uu w' → K _ w' := hK
              simp only [Act.put, List.setIfInBounds_toArray, List.set_cons_zero, List.set_cons_succ] at hK ⊢
              have HK := Lib.hid hK
              have HG := Lib.hid hG
              clear hK hd
              clear hG
              go_simp
              exact HK.out _ _ (Below.refl _ _) HG.out rfl
            · intro vs wx hG hd K hK
              have e11 : vs 11 = .slice (some ⟨g, 0, none⟩) qs.length cap := hd.get (j := 11) (by simp [depsOf, Region.binds])
              have e12 : vs 12 = .int .i64 (i : Int) := hd.get (j := 12) (by simp [depsOf, Region.binds])
              replace hK : ∀ (uu : Value) (w' : World), Below wx.heap.size wx w' → ((Gd wr m room fuse down (some ⟨g, 0, none⟩) cap qs)) w' → (Hb wr) (.inl (.pointer (some ⟨g, i * 4, none⟩))) uu w' → K _ w' := hK
              simp only [Act.put, List.setIfInBounds_toArray, List.set_cons_zero, List.set_cons_succ, e11, e12] at hK ⊢
              have HK := Lib.hid hK
              have HG := Lib.hid hG
              clear hK hd e11 e12
              clear hG
              go_simp
              exact HK.out _ _ (Below.refl _ _) HG.out rfl
            · intro vs wx hG hd K hK
              have e13 : vs 13 = .pointer (some ⟨g, i * 4, none⟩) := hd.get (j := 13) (by simp [depsOf, Region.binds])
              replace hK : ∀ (uu : Value) (w' : World), Below wx.heap.size wx w' → ((Gd wr m room fuse down (some ⟨g, 0, none⟩) cap qs)) w' → (Hb wr) (.inl (.pointer (some ⟨g, i * 4 + 2, none⟩))) uu w' → K _ w' := hK
              simp only [Act.put, List.setIfInBounds_toArray, List.set_cons_zero, List.set_cons_succ, e13] at hK ⊢
              have HK := Lib.hid hK
              have HG := Lib.hid hG
              clear hK hd e13
              clear hG
              go_simp
              exact HK.out _ _ (Below.refl _ _) HG.out rfl
            · intro vs wx hG hd K hK
              have e14 : vs 14 = .pointer (some ⟨g, i * 4 + 2, none⟩) := hd.get (j := 14) (by simp [depsOf, Region.binds])
              replace hK : ∀ (uu : Value) (w' : World), Below wx.heap.size wx w' → ((Gd wr m room fuse down (some ⟨g, 0, none⟩) cap qs)) w' → (Hb wr) (.inl (.slice q.B (q.x.b.length - q.x.l) q.d)) uu w' → K _ w' := hK
              simp only [Act.put, List.setIfInBounds_toArray, List.set_cons_zero, List.set_cons_succ, e14] at hK ⊢
              have HK := Lib.hid hK
              have HG := Lib.hid hG
              clear hK hd e14
              have gc1 := HG.out.c1
              obtain ⟨gs, _⟩ := HG.out.slot hiq
              have gs1 := gs 1 _ rfl
              have gs2 := gs 2 _ rfl
              clear hG gs
              go_simp
              exact HK.out _ _ (Below.refl _ _) HG.out rfl
            · intro vs wx hG hd K hK
              replace hK : ∀ (uu : Value) (w' : World), Below wx.heap.size wx w' → ((Gd wr m room fuse down (some ⟨g, 0, none⟩) cap qs)) w' → (Hb wr) (.inl (.int .i64 0)) uu w' → K _ w' := hK
              simp only [Act.put, List.setIfInBounds_toArray, List.set_cons_zero, List.set_cons_succ] at hK ⊢
              have HK := Lib.hid hK
              have HG := Lib.hid hG
              clear hK hd
              clear hG
              go_simp
              exact HK.out _ _ (Below.refl _ _) HG.out rfl
            · intro vs wx hG hd K hK
              have e15 : vs 15 = .slice q.B (q.x.b.length - q.x.l) q.d := hd.get (j := 15) (by simp [depsOf, Region.binds])
              have e16 : vs 16 = .int .i64 0 := hd.get (j := 16) (by simp [depsOf, Region.binds])
              replace hK : ∀ (uu : Value) (w' : World), Below wx.heap.size wx w' → ((Gd wr m room fuse down (some ⟨g, 0, none⟩) cap qs)) w' → (Hb wr) (.inl (.slice q.B 0 q.d)) uu w' → K _ w' := hK
              simp only [Act.put, List.setIfInBounds_toArray, List.set_cons_zero, List.set_cons_succ, e15, e16] at hK ⊢
              have HK := Lib.hid hK
              have HG := Lib.hid hG
              clear hK hd e15 e16
              clear hG
              have hs1 := HS1.out wx
              go_simp
              exact HK.out _ _ (Below.refl _ _) HG.out rfl
            · intro vs wx hG hd K hK
              have e7 : vs 7 = .slice q.A q.x.l q.c := hd.get (j := 7) (by simp [depsOf, Region.binds])
              have e17 : vs 17 = .slice q.B 0 q.d := hd.get (j := 17) (by simp [depsOf, Region.binds])
              replace hK : ∀ (uu : Value) (w' : World), Below wx.heap.size wx w' → ((Gd wr m room fuse down (some ⟨g, 0, none⟩) cap qs)) w' → (Hb wr) (.inr bb) uu w' → K _ w' := hK
              simp only [Act.put, List.setIfInBounds_toArray, List.set_cons_zero, List.set_cons_succ, e7, e17] at hK ⊢
              have HK := Lib.hid hK
              have HG := Lib.hid hG
              clear hK hd e7 e17
              clear hG
              go_simp
              go_at_call 42
              refine (HJ.out _ HG.out.bel).mono ?_
              rintro e w9 ⟨A9, c9, rfl, ho, hb⟩
              exact HK.out _ _ hb (HG.out.below hb) ⟨A9, c9, rfl, ho.more HG.out.bel.size⟩
            · intro vs wx hG hd K hK
              obtain ⟨A18, c18, e18, q18⟩ : ∃ Aq cq, vs 18 = .slice Aq bb.length cq ∧ Ob wx wr.heap.size (.slice Aq bb.length cq) bb := hd.get (j := 18) (by simp [depsOf, Region.binds])
              replace hK : ∀ (uu : Value) (w' : World), Below wx.heap.size wx w' → ((Gd wr m room fuse down (some ⟨g, 0, none⟩) cap qs)) w' → (Hb wr) (.inr bb) uu w' → K _ w' := hK
              simp only [Act.put, List.setIfInBounds_toArray, List.set_cons_zero, List.set_cons_succ, e18] at hK ⊢
              have HK := Lib.hid hK
              have HG := Lib.hid hG
              clear hK hd e18
              clear hG
              go_simp
              exact HK.out _ _ (Below.refl _ _) HG.out ⟨A18, c18, rfl, q18⟩
          case hend =>
            intro vs wx hG hv
            obtain ⟨A9, c9, e19, ho⟩ : ∃ A c, vs 19 = .slice A bb.length c ∧ Ob wx wr.heap.size (.slice A bb.length c) bb := hv 19 (by decide)
            rw [e19]
            clear hv e19
            have hol := ho.bs.1.le
            have hom := ho.bs.1.max
            unfold maxLen at hom
            have HO9 := Lib.hid ho
            have HG := Lib.hid hG
            have HC2 := Lib.hid (HC.out.below hG.bel)
            have d1 := hG.c1
            obtain ⟨us, _⟩ := hG.slot hiq
            have u0 : wx.cell? ⟨g, i * 4, none⟩ = some (.int .i64 q.x.n) := us 0 _ rfl
            have u3 : wx.cell? ⟨g, i * 4 + 3, none⟩ = some (.bool q.x.k) := us 3 _ rfl
            have z2 : w.heap.size ≤ wx.heap.size := Nat.le_trans z1 hG.bel.size
            clear ho hG us
            by_cases hb0 : 0 < bb.length
            · have HE := Lib.hid (HTN.out.trans (by rw [if_pos (Or.inr hb0)]))
              have hb1 : (0 : Int) < (bb.length : Int) := by omega
              have HSO := Lib.hid HC2.out.so
              have HBL := Lib.hid HC2.out.bl
              have HL := Lib.hid HC2.out.len.symm
              go_wp2_with (at_builtin; refine wpList_pushE Try.underlying59 info_sg rfl (by decide) wx rfl (.tmp 84) (.tmp 95) rfl w.heap.size (.slice B k c) rs rfl HSO.out ⟨⟨q.x.n, bb, bb.length, true⟩, A9, c9, none, 0⟩ #[.int .i64 q.x.n, .slice A9 bb.length c9, .slice none 0 0, .bool true] (by simp [encQ]) rfl (encQ_one _) _ wx.heap.size rfl rfl (k + 1) (by rw [HL.out]) (by unfold maxLen; omega) (by omega) z2 ?_; intro A2 cap2 w2 hps2 hgrow2 hat2; have B2 : Below w.heap.size w w2 := grown_below HBL.out hgrow2 z2 (fun _ h => (HSO.out.lt _ h).1))
              go_roundw
              case rel => exact ⟨i + 1, k + 1, cap2, A2, rs ++ [⟨⟨q.x.n, bb, bb.length, true⟩, A9, c9, none, 0⟩], by omega, by go_num, rfl, Lib.hid (HC.out.push HG.out.bel HO9.out hps2 B2 hgrow2 hat2 HE.out)⟩
              case measure => simp [intOf]; omega
            · cases hqk : q.x.k with
              | true =>
                have HE := Lib.hid (HTN.out.trans (by rw [if_pos (Or.inl hqk)]))
                rw [hqk] at u3
                clear hqk
                have HSO := Lib.hid HC2.out.so
                have HBL := Lib.hid HC2.out.bl
                have HL := Lib.hid HC2.out.len.symm
                go_wp2_with (at_builtin; refine wpList_pushE Try.underlying59 info_sg rfl (by decide) wx rfl (.tmp 84) (.tmp 95) rfl w.heap.size (.slice B k c) rs rfl HSO.out ⟨⟨q.x.n, bb, bb.length, true⟩, A9, c9, none, 0⟩ #[.int .i64 q.x.n, .slice A9 bb.length c9, .slice none 0 0, .bool true] (by simp [encQ]) rfl (encQ_one _) _ wx.heap.size rfl rfl (k + 1) (by rw [HL.out]) (by unfold maxLen; omega) (by omega) z2 ?_; intro A2 cap2 w2 hps2 hgrow2 hat2; have B2 : Below w.heap.size w w2 := grown_below HBL.out hgrow2 z2 (fun _ h => (HSO.out.lt _ h).1))
                go_roundw
                case rel => exact ⟨i + 1, k + 1, cap2, A2, rs ++ [⟨⟨q.x.n, bb, bb.length, true⟩, A9, c9, none, 0⟩], by omega, by go_num, rfl, Lib.hid (HC.out.push HG.out.bel HO9.out hps2 B2 hgrow2 hat2 HE.out)⟩
                case measure => simp [intOf]; omega
              | false =>
                have HE := Lib.hid (HTN.out.trans (by rw [if_neg (by rintro (h | h); (rw [hqk] at h; cases h); exact hb0 h)]))
                rw [hqk] at u3
                clear hqk
                have hb1 : ¬ (0 : Int) < (bb.length : Int) := by omega
                go_wp2_with fail
                go_roundw
                case rel => exact ⟨i + 1, k, c, B, rs, by omega, by go_num, rfl, Lib.hid (HC.out.none_ HG.out.bel HE.out)⟩
                case measure => simp [intOf]; omega
      · have hmore : ks.getD i 0 = 0 := by rw [List.getD_eq_getElem?_getD, List.getElem?_eq_none (by omega)]; rfl
        rw [hmore] at HALL
        obtain ⟨bb, hbb, HJ, HTN, HS1⟩ := HALL.out 0 (by simp)
        clear HALL HCS HGQ HL1 HL2 hmore
        go_wp2_with fail
        apply region_V (Hb wr) (Gd wr m room fuse down (some ⟨g, 0, none⟩) cap qs) [.inl (.pointer (some ⟨m, 0, none⟩)), .inl (.pointer (some ⟨m, 0, none⟩)), .inl (.pointer (some ⟨m, 1, none⟩)), .inl (.slice (some ⟨g, 0, none⟩) qs.length cap), .inl (.int .i64 (i : Int)), .inl (.pointer (some ⟨g, i * 4, none⟩)), .inl (.pointer (some ⟨g, i * 4 + 1, none⟩)), .inl (.slice q.A q.x.l q.c), .inl (.pointer (some ⟨m, 0, none⟩)), .inl (.pointer (some ⟨m, 0, none⟩)), .inl (.pointer (some ⟨m, 1, none⟩)), .inl (.slice (some ⟨g, 0, none⟩) qs.length cap), .inl (.int .i64 (i : Int)), .inl (.pointer (some ⟨g, i * 4, none⟩)), .inl (.pointer (some ⟨g, i * 4 + 2, none⟩)), .inl (.slice q.B (q.x.b.length - q.x.l) q.d), .inl (.int .i64 0), .inl (.slice q.B 0 q.d), .inr bb, .inr bb] (.inl undef)
        case mono => exact fun p v w0 w9 h hb => Hb.mono h hb
        case hm => kernel_rfl
        case hf => kernel_rfl
        case hQ => exact (by intro c x y w e h; exact And.intro (e.symm.trans (And.left h)) (And.right h))
        case hF => intro vs; simp only [putAll, Act.put, List.setIfInBounds_toArray, List.set_cons_zero, List.set_cons_succ, Nat.reduceAdd]; rfl
        case h0 => exact ⟨H2.out.below ⟨rfl, rfl, rfl, Nat.le_refl _, fun _ _ => rfl⟩, ⟨rfl, rfl, rfl, Nat.le_refl _, fun _ _ => rfl⟩⟩
        case hstep =>
          repeat' (first | exact AllOps.nil | apply AllOps.cons)
          · intro vs wx hG hd K hK
            replace hK : ∀ (uu : Value) (w' : World), Below wx.heap.size wx w' → ((Gd wr m room fuse down (some ⟨g, 0, none⟩) cap qs)) w' → (Hb wr) (.inl (.pointer (some ⟨m, 0, none⟩))) uu w' → K _ w' := hK
            simp only [Act.put, List.setIfInBounds_toArray, List.set_cons_zero, List.set_cons_succ] at hK ⊢
            have HK := Lib.hid hK
            have HG := Lib.hid hG
            clear hK hd
            clear hG
            go_simp
            exact HK.out _ _ (Below.refl _ _) HG.out rfl
          · intro vs wx hG hd K hK
            have e0 : vs 0 = .pointer (some ⟨m, 0, none⟩) := hd.get (j := 0) (by simp [depsOf, Region.binds])
            replace hK : ∀ (uu : Value) (w' : World), Below wx.heap.size wx w' → ((Gd wr m room fuse down (some ⟨g, 0, none⟩) cap qs)) w' → (Hb wr) (.inl (.pointer (some ⟨m, 0, none⟩))) uu w' → K _ w' := hK
            simp only [Act.put, List.setIfInBounds_toArray, List.set_cons_zero, List.set_cons_succ, e0] at hK ⊢
            have HK := Lib.hid hK
            have HG := Lib.hid hG
            clear hK hd e0
            clear hG
            go_simp
            exact HK.out _ _ (Below.refl _ _) HG.out rfl
          · intro vs wx hG hd K hK
            have e1 : vs 1 = .pointer (some ⟨m, 0, none⟩) := hd.get (j := 1) (by simp [depsOf, Region.binds])
            replace hK : ∀ (uu : Value) (w' : World), Below wx.heap.size wx w' → ((Gd wr m room fuse down (some ⟨g, 0, none⟩) cap qs)) w' → (Hb wr) (.inl (.pointer (some ⟨m, 1, none⟩))) uu w' → K _ w' := hK
            simp only [Act.put, List.setIfInBounds_toArray, List.set_cons_zero, List.set_cons_succ, e1] at hK ⊢
            have HK := Lib.hid hK
            have HG := Lib.hid hG
            clear hK hd e1
            clear hG
            go_simp
            exact HK.out _ _ (Below.refl _ _) HG.out rfl
          · intro vs wx hG hd K hK
            have e2 : vs 2 = .pointer (some ⟨m, 1, none⟩) := hd.get (j := 2) (by simp [depsOf, Region.binds])
            replace hK : ∀ (uu : Value) (w' : World), Below wx.heap.size wx w' → ((Gd wr m room fuse down (some ⟨g, 0, none⟩) cap qs)) w' → (Hb wr) (.inl (.slice (some ⟨g, 0, none⟩) qs.length cap)) uu w' → K _ w' := hK
            simp only [Act.put, List.setIfInBounds_toArray, List.set_cons_zero, List.set_cons_succ, e2] at hK ⊢
            have HK := Lib.hid hK
            have HG := Lib.hid hG
            clear hK hd e2
            have gc1 := HG.out.c1
            obtain ⟨gs, _⟩ := HG.out.slot hiq
            have gs1 := gs 1 _ rfl
            have gs2 := gs 2 _ rfl
            clear hG gs
            go_simp
            exact HK.out _ _ (Below.refl _ _) HG.out rfl
          · intro vs wx hG hd K hK
            replace hK : ∀ (uu : Value) (w' : World), Below wx.heap.size wx w' → ((Gd wr m room fuse down (some ⟨g, 0, none⟩) cap qs)) w' → (Hb wr) (.inl (.int .i64 (i : Int))) uu w' → K _ w' := hK
            simp only [Act.put, List.setIfInBounds_toArray, List.set_cons_zero, List.set_cons_succ] at hK ⊢
            have HK := Lib.hid hK
            have HG := Lib.hid hG
            clear hK hd
            clear hG
            go_simp
            exact HK.out _ _ (Below.refl _ _) HG.out rfl
          · intro vs wx hG hd K hK
            have e3 : vs 3 = .slice (some ⟨g, 0, none⟩) qs.length cap := hd.get (j := 3) (by simp [depsOf, Region.binds])
            have e4 : vs 4 = .int .i64 (i : Int) := hd.get (j := 4) (by simp [depsOf, Region.binds])
            replace hK : ∀ (uu : Value) (w' : World), Below wx.heap.size wx w' → ((Gd wr m room fuse down (some ⟨g, 0, none⟩) cap qs)) w' → (Hb wr) (.inl (.pointer (some ⟨g, i * 4, none⟩))) uu w' → K _ w' := hK
            simp only [Act.put, List.setIfInBounds_toArray, List.set_cons_zero, List.set_cons_succ, e3, e4] at hK ⊢
            have HK := Lib.hid hK
            have HG := Lib.hid hG
            clear hK hd e3 e4
            clear hG
            go_simp
            exact HK.out _ _ (Below.refl _ _) HG.out rfl
          · intro vs wx hG hd K hK
            have e5 : vs 5 = .pointer (some ⟨g, i * 4, none⟩) := hd.get (j := 5) (by simp [depsOf, Region.binds])
            replace hK : ∀ (uu : Value) (w' : World), Below wx.heap.size wx w' → ((Gd wr m room fuse down (some ⟨g, 0, none⟩) cap qs)) w' → (Hb wr) (.inl (.pointer (some ⟨g, i * 4 + 1, none⟩))) uu w' → K _ w' := hK
            simp only [Act.put, List.setIfInBounds_toArray, List.set_cons_zero, List.set_cons_succ, e5] at hK ⊢
            have HK := Lib.hid hK
            have HG := Lib.hid hG
            clear hK hd e5
            clear hG
            go_simp
            exact HK.out _ _ (Below.refl _ _) HG.out rfl
          · intro vs wx hG hd K hK
            have e6 : vs 6 = .pointer (some ⟨g, i * 4 + 1, none⟩) := hd.get (j := 6) (by simp [depsOf, Region.binds])
            replace hK : ∀ (uu : Value) (w' : World), Below wx.heap.size wx w' → ((Gd wr m room fuse down (some ⟨g, 0, none⟩) cap qs)) w' → (Hb wr) (.inl (.slice q.A q.x.l q.c)) uu w' → K _ w' := hK
            simp only [Act.put, List.setIfInBounds_toArray, List.set_cons_zero, List.set_cons_succ, e6] at hK ⊢
            have HK := Lib.hid hK
            have HG := Lib.hid hG
            clear hK hd e6
            have gc1 := HG.out.c1
            obtain ⟨gs, _⟩ := HG.out.slot hiq
            have gs1 := gs 1 _ rfl
            have gs2 := gs 2 _ rfl
            clear hG gs
            go_simp
            exact HK.out _ _ (Below.refl _ _) HG.out rfl
          · intro vs wx hG hd K hK
            replace hK : ∀ (uu : Value) (w' : World), Below wx.heap.size wx w' → ((Gd wr m room fuse down (some ⟨g, 0, none⟩) cap qs)) w' → (Hb wr) (.inl (.pointer (some ⟨m, 0, none⟩))) uu w' → K _ w' := hK
            simp only [Act.put, List.setIfInBounds_toArray, List.set_cons_zero, List.set_cons_succ] at hK ⊢
            have HK := Lib.hid hK
            have HG := Lib.hid hG
            clear hK hd
            clear hG
            go_simp
            exact HK.out _ _ (Below.refl _ _) HG.out rfl
          · intro vs wx hG hd K hK
            have e8 : vs 8 = .pointer (some ⟨m, 0, none⟩) := hd.get (j := 8) (by simp [depsOf, Region.binds])
            replace hK : ∀ (uu : Value) (w' : World), Below wx.heap.size wx w' → ((Gd wr m room fuse down (some ⟨g, 0, none⟩) cap qs)) w' → (Hb wr) (.inl (.pointer (some ⟨m, 0, none⟩))) uu w' → K _ w' := hK
            simp only [Act.put, List.setIfInBounds_toArray, List.set_cons_zero, List.set_cons_succ, e8] at hK ⊢
            have HK := Lib.hid hK
            have HG := Lib.hid hG
            clear hK hd e8
            clear hG
            go_simp
            exact HK.out _ _ (Below.refl _ _) HG.out rfl
          · intro vs wx hG hd K hK
            have e9 : vs 9 = .pointer (some ⟨m, 0, none⟩) := hd.get (j := 9) (by simp [depsOf, Region.binds])
            replace hK : ∀ (uu : Value) (w' : World), Below wx.heap.size wx w' → ((Gd wr m room fuse down (some ⟨g, 0, none⟩) cap qs)) w' → (Hb wr) (.inl (.pointer (some ⟨m, 1, none⟩))) uu w' → K _ w' := hK
            simp only [Act.put, List.setIfInBounds_toArray, List.set_cons_zero, List.set_cons_succ, e9] at hK ⊢
            have HK := Lib.hid hK
            have HG := Lib.hid hG
            clear hK hd e9
            clear hG
            go_simp
            exact HK.out _ _ (Below.refl _ _) HG.out rfl
          · intro vs wx hG hd K hK
            have e10 : vs 10 = .pointer (some ⟨m, 1, none⟩) := hd.get (j := 10) (by simp [depsOf, Region.binds])
            replace hK : ∀ (uu : Value) (w' : World), Below wx.heap.size wx w' → ((Gd wr m room fuse down (some ⟨g, 0, none⟩) cap qs)) w' → (Hb wr) (.inl (.slice (some ⟨g, 0, none⟩) qs.length cap)) uu w' → K _ w' := hK
            simp only [Act.put, List.setIfInBounds_toArray, List.set_cons_zero, List.set_cons_succ, e10] at hK ⊢
            have HK := Lib.hid hK
            have HG := Lib.hid hG
            clear hK hd e10
            have gc1 := HG.out.c1
            obtain ⟨gs, _⟩ := HG.out.slot hiq
            have gs1 := gs 1 _ rfl
            have gs2 := gs 2 _ rfl
            clear hG gs
            go_simp
            exact HK.out _ _ (Below.refl _ _) HG.out rfl
          · intro vs wx hG hd K hK
            replace hK : ∀ (uu : Value) (w' : World), Below wx.heap.size wx w' → ((Gd wr m room fuse down (some ⟨g, 0, none⟩) cap qs)) w' → (Hb wr) (.inl (.int .i64 (i : Int))) uu w' → K _ w' := hK
            simp only [Act.put, List.setIfInBounds_toArray, List.set_cons_zero, List.set_cons_succ] at hK ⊢
            have HK := Lib.hid hK
            have HG := Lib.hid hG
            clear hK hd
            clear hG
            go_simp
            exact HK.out _ _ (Below.refl _ _) HG.out rfl
          · intro vs wx hG hd K hK
            have e11 : vs 11 = .slice (some ⟨g, 0, none⟩) qs.length cap := hd.get (j := 11) (by simp [depsOf, Region.binds])
            have e12 : vs 12 = .int .i64 (i : Int) := hd.get (j := 12) (by simp [depsOf, Region.binds])
            replace hK : ∀ (uu : Value) (w' : World), Below wx.heap.size wx w' → ((Gd wr m room fuse down (some ⟨g, 0, none⟩) cap qs)) w' → (Hb wr) (.inl (.pointer (some ⟨g, i * 4, none⟩))) uu w' → K _ w' := hK
            simp only [Act.put, List.setIfInBounds_toArray, List.set_cons_zero, List.set_cons_succ, e11, e12] at hK ⊢
            have HK := Lib.hid hK
            have HG := Lib.hid hG
            clear hK hd e11 e12
            clear hG
            go_simp
            exact HK.out _ _ (Below.refl _ _) HG.out rfl
          · intro vs wx hG hd K hK
            have e13 : vs 13 = .pointer (some ⟨g, i * 4, none⟩) := hd.get (j := 13) (by simp [depsOf, Region.binds])
            replace hK : ∀ (uu : Value) (w' : World), Below wx.heap.size wx w' → ((Gd wr m room fuse down (some ⟨g, 0, none⟩) cap qs)) w' → (Hb wr) (.inl (.pointer (some ⟨g, i * 4 + 2, none⟩))) uu w' → K _ w' := hK
            simp only [Act.put, List.setIfInBounds_toArray, List.set_cons_zero, List.set_cons_succ, e13] at hK ⊢
            have HK := Lib.hid hK
            have HG := Lib.hid hG
            clear hK hd e13
            clear hG
            go_simp
            exact HK.out _ _ (Below.refl _ _) HG.out rfl
          · intro vs wx hG hd K hK
            have e14 : vs 14 = .pointer (some ⟨g, i * 4 + 2, none⟩) := hd.get (j := 14) (by simp [depsOf, Region.binds])
            replace hK : ∀ (uu : Value) (w' : World), Below wx.heap.size wx w' → ((Gd wr m room fuse down (some ⟨g, 0, none⟩) cap qs)) w' → (Hb wr) (.inl (.slice q.B (q.x.b.length - q.x.l) q.d)) uu w' → K _ w' := hK
            simp only [Act.put, List.setIfInBounds_toArray, List.set_cons_zero, List.set_cons_succ, e14] at hK ⊢
            have HK := Lib.hid hK
            have HG := Lib.hid hG
            clear hK hd e14
            have gc1 := HG.out.c1
            obtain ⟨gs, _⟩ := HG.out.slot hiq
            have gs1 := gs 1 _ rfl
            have gs2 := gs 2 _ rfl
            clear hG gs
            go_simp
            exact HK.out _ _ (Below.refl _ _) HG.out rfl
          · intro vs wx hG hd K hK
            replace hK : ∀ (uu : Value) (w' : World), Below wx.heap.size wx w' → ((Gd wr m room fuse down (some ⟨g, 0, none⟩) cap qs)) w' → (Hb wr) (.inl (.int .i64 0)) uu w' → K _ w' := hK
            simp only [Act.put, List.setIfInBounds_toArray, List.set_cons_zero, List.set_cons_succ] at hK ⊢
            have HK := Lib.hid hK
            have HG := Lib.hid hG
            clear hK hd
            clear hG
            go_simp
            exact HK.out _ _ (Below.refl _ _) HG.out rfl
          · intro vs wx hG hd K hK
            have e15 : vs 15 = .slice q.B (q.x.b.length - q.x.l) q.d := hd.get (j := 15) (by simp [depsOf, Region.binds])
            have e16 : vs 16 = .int .i64 0 := hd.get (j := 16) (by simp [depsOf, Region.binds])
            replace hK : ∀ (uu : Value) (w' : World), Below wx.heap.size wx w' → ((Gd wr m room fuse down (some ⟨g, 0, none⟩) cap qs)) w' → (Hb wr) (.inl (.slice q.B 0 q.d)) uu w' → K _ w' := hK
            simp only [Act.put, List.setIfInBounds_toArray, List.set_cons_zero, List.set_cons_succ, e15, e16] at hK ⊢
            have HK := Lib.hid hK
            have HG := Lib.hid hG
            clear hK hd e15 e16
            clear hG
            have hs1 := HS1.out wx
            go_simp
            exact HK.out _ _ (Below.refl _ _) HG.out rfl
          · intro vs wx hG hd K hK
            have e7 : vs 7 = .slice q.A q.x.l q.c := hd.get (j := 7) (by simp [depsOf, Region.binds])
            have e17 : vs 17 = .slice q.B 0 q.d := hd.get (j := 17) (by simp [depsOf, Region.binds])
            replace hK : ∀ (uu : Value) (w' : World), Below wx.heap.size wx w' → ((Gd wr m room fuse down (some ⟨g, 0, none⟩) cap qs)) w' → (Hb wr) (.inr bb) uu w' → K _ w' := hK
            simp only [Act.put, List.setIfInBounds_toArray, List.set_cons_zero, List.set_cons_succ, e7, e17] at hK ⊢
            have HK := Lib.hid hK
            have HG := Lib.hid hG
            clear hK hd e7 e17
            clear hG
            go_simp
            go_at_call 42
            refine (HJ.out _ HG.out.bel).mono ?_
            rintro e w9 ⟨A9, c9, rfl, ho, hb⟩
            exact HK.out _ _ hb (HG.out.below hb) ⟨A9, c9, rfl, ho.more HG.out.bel.size⟩
          · intro vs wx hG hd K hK
            obtain ⟨A18, c18, e18, q18⟩ : ∃ Aq cq, vs 18 = .slice Aq bb.length cq ∧ Ob wx wr.heap.size (.slice Aq bb.length cq) bb := hd.get (j := 18) (by simp [depsOf, Region.binds])
            replace hK : ∀ (uu : Value) (w' : World), Below wx.heap.size wx w' → ((Gd wr m room fuse down (some ⟨g, 0, none⟩) cap qs)) w' → (Hb wr) (.inr bb) uu w' → K _ w' := hK
            simp only [Act.put, List.setIfInBounds_toArray, List.set_cons_zero, List.set_cons_succ, e18] at hK ⊢
            have HK := Lib.hid hK
            have HG := Lib.hid hG
            clear hK hd e18
            clear hG
            go_simp
            exact HK.out _ _ (Below.refl _ _) HG.out ⟨A18, c18, rfl, q18⟩
        case hend =>
          intro vs wx hG hv
          obtain ⟨A9, c9, e19, ho⟩ : ∃ A c, vs 19 = .slice A bb.length c ∧ Ob wx wr.heap.size (.slice A bb.length c) bb := hv 19 (by decide)
          rw [e19]
          clear hv e19
          have hol := ho.bs.1.le
          have hom := ho.bs.1.max
          unfold maxLen at hom
          have HO9 := Lib.hid ho
          have HG := Lib.hid hG
          have HC2 := Lib.hid (HC.out.below hG.bel)
          have d1 := hG.c1
          obtain ⟨us, _⟩ := hG.slot hiq
          have u0 : wx.cell? ⟨g, i * 4, none⟩ = some (.int .i64 q.x.n) := us 0 _ rfl
          have u3 : wx.cell? ⟨g, i * 4 + 3, none⟩ = some (.bool q.x.k) := us 3 _ rfl
          have z2 : w.heap.size ≤ wx.heap.size := Nat.le_trans z1 hG.bel.size
          clear ho hG us
          by_cases hb0 : 0 < bb.length
          · have HE := Lib.hid (HTN.out.trans (by rw [if_pos (Or.inr hb0)]))
            have hb1 : (0 : Int) < (bb.length : Int) := by omega
            have HSO := Lib.hid HC2.out.so
            have HBL := Lib.hid HC2.out.bl
            have HL := Lib.hid HC2.out.len.symm
            go_wp2_with (at_builtin; refine wpList_pushE Try.underlying59 info_sg rfl (by decide) wx rfl (.tmp 84) (.tmp 95) rfl w.heap.size (.slice B k c) rs rfl HSO.out ⟨⟨q.x.n, bb, bb.length, true⟩, A9, c9, none, 0⟩ #[.int .i64 q.x.n, .slice A9 bb.length c9, .slice none 0 0, .bool true] (by simp [encQ]) rfl (encQ_one _) _ wx.heap.size rfl rfl (k + 1) (by rw [HL.out]) (by unfold maxLen; omega) (by omega) z2 ?_; intro A2 cap2 w2 hps2 hgrow2 hat2; have B2 : Below w.heap.size w w2 := grown_below HBL.out hgrow2 z2 (fun _ h => (HSO.out.lt _ h).1))
            go_roundw
            case rel => exact ⟨i + 1, k + 1, cap2, A2, rs ++ [⟨⟨q.x.n, bb, bb.length, true⟩, A9, c9, none, 0⟩], by omega, by go_num, rfl, Lib.hid (HC.out.push HG.out.bel HO9.out hps2 B2 hgrow2 hat2 HE.out)⟩
            case measure => simp [intOf]; omega
          · cases hqk : q.x.k with
            | true =>
              have HE := Lib.hid (HTN.out.trans (by rw [if_pos (Or.inl hqk)]))
              rw [hqk] at u3
              clear hqk
              have HSO := Lib.hid HC2.out.so
              have HBL := Lib.hid HC2.out.bl
              have HL := Lib.hid HC2.out.len.symm
              go_wp2_with (at_builtin; refine wpList_pushE Try.underlying59 info_sg rfl (by decide) wx rfl (.tmp 84) (.tmp 95) rfl w.heap.size (.slice B k c) rs rfl HSO.out ⟨⟨q.x.n, bb, bb.length, true⟩, A9, c9, none, 0⟩ #[.int .i64 q.x.n, .slice A9 bb.length c9, .slice none 0 0, .bool true] (by simp [encQ]) rfl (encQ_one _) _ wx.heap.size rfl rfl (k + 1) (by rw [HL.out]) (by unfold maxLen; omega) (by omega) z2 ?_; intro A2 cap2 w2 hps2 hgrow2 hat2; have B2 : Below w.heap.size w w2 := grown_below HBL.out hgrow2 z2 (fun _ h => (HSO.out.lt _ h).1))
              go_roundw
              case rel => exact ⟨i + 1, k + 1, cap2, A2, rs ++ [⟨⟨q.x.n, bb, bb.length, true⟩, A9, c9, none, 0⟩], by omega, by go_num, rfl, Lib.hid (HC.out.push HG.out.bel HO9.out hps2 B2 hgrow2 hat2 HE.out)⟩
              case measure => simp [intOf]; omega
            | false =>
              have HE := Lib.hid (HTN.out.trans (by rw [if_neg (by rintro (h | h); (rw [hqk] at h; cases h); exact hb0 h)]))
              rw [hqk] at u3
              clear hqk
              have hb1 : ¬ (0 : Int) < (bb.length : Int) := by omega
              go_wp2_with fail
              go_roundw
              case rel => exact ⟨i + 1, k, c, B, rs, by omega, by go_num, rfl, Lib.hid (HC.out.none_ HG.out.bel HE.out)⟩
              case measure => simp [intOf]; omega
    · obtain rfl : i = qs.length := by omega
      have hk := HC.out.len
      subst hk
      have fr1 := H2.out.fr 1
      have fr2 := H2.out.fr 2
      have fr3 := H2.out.fr 3
      have d2 := H2.out.c2
      have d3 := H2.out.c3
      have h9 := HD.out.newLB HC.out.bl HC.out.so fun q hq => ⟨(HC.out.old q hq).1, fun j hj => ⟨by
        have h1 := ((HC.out.old q hq).2 j hj).1
        have h2 := World.block_lt_of_cell? w _ HD.out.c0
        simp only at h2
        omega, ((HC.out.old q hq).2 j hj).2, .inr ((HC.out.old q hq).2 j hj).1⟩⟩
      have h8 := (h9.1.setF (-1)).setG false
      have HR := Lib.hid (RD.turned (a' := crashD ⟨room, fuse, down, qs.map Rq.x⟩ ks) HB.out h8 (by have := HC.out.eq; rw [List.take_length] at this; exact this) ((h9.2.1.thenQ (Tn.setCell _ m 2 _) fun _ _ e => .inl e).thenQ (Tn.setCell _ m 3 _) fun _ _ e => .inl e) h9.2.2 0)
      clear h9 h8
      go_wp2_with fail
      go_end0
      exact ⟨rfl, HR.out⟩
end
end Go.Proofs.Ytkkaehaoahpibaa
