/- The law's Is: both disks have the same segments. -/
import Derived.Test.YtkkaehaoahpibaaPk10
namespace Go.Proofs.Ytkkaehaoahpibaa
open Go.RowKit Go.BigFrame

section
variable {w W wx w1 : World} {B C : Nat → Prop} {d m : Nat} {a : Ad} {room fuse : Int} {L : List As}
theorem RD.c3 (h : RD wx C m a) : wx.cell? ⟨m, 3, none⟩ = some (.bool a.down) := by
  obtain ⟨A, cap, qs, D, _, _⟩ := h.ex
  exact D.c3
theorem rused_RD (h : RD wx C m a) (hl : Lim a) : Calls Try.prog 36 #[rP m] wx fun e w' => e = .returned (.int .i64 (sumA a.L : Nat)) ∧ Below wx.heap.size wx w' := by
  obtain ⟨A, cap, qs, D, e, _⟩ := h.ex
  have h1 := hl.le
  have h2 := hl.rm
  have h3 := hl.ln
  rw [← e] at h1 h3 ⊢
  rw [List.length_map] at h3
  exact rused_any D (by omega) (by omega)
/-- Both disks, seen from the world W. -/
structure Iz (W : World) (B C : Nat → Prop) (d m : Nat) (a : Ad) (wx : World) : Prop where
  d : DD wx B d a
  r : RD wx C m a
  b : Below W.heap.size W wx
theorem Iz.below (h : Iz W B C d m a wx) (hb : Below wx.heap.size wx w1) : Iz W B C d m a w1 := ⟨h.d.below hb, h.r.below hb, h.b.trans (hb.mono h.b.size)⟩
set_option maxRecDepth 100000 in
set_option maxHeartbeats 6400000 in
theorem is_any (D : DD W B d a) (R : RD W C m a) : Calls Try.prog 11 #[dP d, rP m] W fun e w' => e = .returned (.bool true) ∧ Below W.heap.size W w' := by
  obtain ⟨room, fuse, down, L⟩ := a
  have HL := Lib.hid D.lim
  have HI : Hid (Iz W B C d m ⟨room, fuse, down, L⟩ W) := Lib.hid ⟨D, R, Below.refl _ _⟩
  clear D R
  cases down
  · have HC3 : Hid (∀ wx, RD wx C m ⟨room, fuse, false, L⟩ → wx.cell? ⟨m, 3, none⟩ = some (.bool false)) := Lib.hid fun wx h => h.c3
    go_enter Try.func11, Try.ntmps11
    go_wp2_with fail
    apply region_V (Hb W) (Iz W B C d m ⟨room, fuse, false, L⟩) [.inl (dP d), .inl (.bool false), .inl (rP m), .inl (rP m), .inl (.pointer (some ⟨m, 3, none⟩)), .inl (.bool false), .inl (.bool false), .inl (.bool false), .inl (dP d), .inl (.int .i64 (sumA L : Nat)), .inl (rP m), .inl (.int .i64 (sumA L : Nat)), .inl (.bool false), .inl (.bool false)] (.inl undef)
    case mono => exact fun p v w w1 h hb => Hb.mono h hb
    case hm => kernel_rfl
    case hf => kernel_rfl
    case hQ => exact (by intro c x y w e h; exact And.intro (e.symm.trans (And.left h)) (And.right h))
    case hF => intro vs; simp only [putAll, Act.put, List.setIfInBounds_toArray, List.set_cons_zero, List.set_cons_succ, Nat.reduceAdd]; rfl
    case h0 => exact (HI.out.below ⟨rfl, rfl, rfl, Nat.le_refl _, fun _ _ => rfl⟩)
    case hstep =>
      repeat' (first | exact AllOps.nil | apply AllOps.cons)
      · intro vs wx hG hd K hK
        replace hK : ∀ (uu : Value) (w' : World), Below wx.heap.size wx w' → ((Iz W B C d m ⟨room, fuse, false, L⟩)) w' → (Hb W) (.inl (dP d)) uu w' → K _ w' := hK
        simp only [Act.put, List.setIfInBounds_toArray, List.set_cons_zero, List.set_cons_succ] at hK ⊢
        have HK := Lib.hid hK
        have HG := Lib.hid hG
        clear hK hd
        clear hG
        go_simp
        exact HK.out _ _ (Below.refl _ _) HG.out rfl
      · intro vs wx hG hd K hK
        have e0 : vs 0 = dP d := hd.get (j := 0) (by simp [depsOf, Region.binds])
        replace hK : ∀ (uu : Value) (w' : World), Below wx.heap.size wx w' → ((Iz W B C d m ⟨room, fuse, false, L⟩)) w' → (Hb W) (.inl (.bool false)) uu w' → K _ w' := hK
        simp only [Act.put, List.setIfInBounds_toArray, List.set_cons_zero, List.set_cons_succ, e0] at hK ⊢
        have HK := Lib.hid hK
        have HG := Lib.hid hG
        clear hK hd e0
        clear hG
        go_simp
        go_at_call 34
        refine (down_DD HG.out.d).mono ?_
        rintro e w1 ⟨rfl, hw⟩; subst hw; have hb := Below.refl w1.heap.size w1
        exact HK.out _ _ hb (HG.out.below hb) rfl
      · intro vs wx hG hd K hK
        replace hK : ∀ (uu : Value) (w' : World), Below wx.heap.size wx w' → ((Iz W B C d m ⟨room, fuse, false, L⟩)) w' → (Hb W) (.inl (rP m)) uu w' → K _ w' := hK
        simp only [Act.put, List.setIfInBounds_toArray, List.set_cons_zero, List.set_cons_succ] at hK ⊢
        have HK := Lib.hid hK
        have HG := Lib.hid hG
        clear hK hd
        clear hG
        go_simp
        exact HK.out _ _ (Below.refl _ _) HG.out rfl
      · intro vs wx hG hd K hK
        have e2 : vs 2 = rP m := hd.get (j := 2) (by simp [depsOf, Region.binds])
        replace hK : ∀ (uu : Value) (w' : World), Below wx.heap.size wx w' → ((Iz W B C d m ⟨room, fuse, false, L⟩)) w' → (Hb W) (.inl (rP m)) uu w' → K _ w' := hK
        simp only [Act.put, List.setIfInBounds_toArray, List.set_cons_zero, List.set_cons_succ, e2] at hK ⊢
        have HK := Lib.hid hK
        have HG := Lib.hid hG
        clear hK hd e2
        clear hG
        go_simp
        exact HK.out _ _ (Below.refl _ _) HG.out rfl
      · intro vs wx hG hd K hK
        have e3 : vs 3 = rP m := hd.get (j := 3) (by simp [depsOf, Region.binds])
        replace hK : ∀ (uu : Value) (w' : World), Below wx.heap.size wx w' → ((Iz W B C d m ⟨room, fuse, false, L⟩)) w' → (Hb W) (.inl (.pointer (some ⟨m, 3, none⟩))) uu w' → K _ w' := hK
        simp only [Act.put, List.setIfInBounds_toArray, List.set_cons_zero, List.set_cons_succ, e3] at hK ⊢
        have HK := Lib.hid hK
        have HG := Lib.hid hG
        clear hK hd e3
        clear hG
        go_simp
        exact HK.out _ _ (Below.refl _ _) HG.out rfl
      · intro vs wx hG hd K hK
        have e4 : vs 4 = .pointer (some ⟨m, 3, none⟩) := hd.get (j := 4) (by simp [depsOf, Region.binds])
        replace hK : ∀ (uu : Value) (w' : World), Below wx.heap.size wx w' → ((Iz W B C d m ⟨room, fuse, false, L⟩)) w' → (Hb W) (.inl (.bool false)) uu w' → K _ w' := hK
        simp only [Act.put, List.setIfInBounds_toArray, List.set_cons_zero, List.set_cons_succ, e4] at hK ⊢
        have HK := Lib.hid hK
        have HG := Lib.hid hG
        clear hK hd e4
        have g3 := HC3.out _ HG.out.r
        clear hG
        go_simp
        exact HK.out _ _ (Below.refl _ _) HG.out rfl
      · intro vs wx hG hd K hK
        have e1 : vs 1 = .bool false := hd.get (j := 1) (by simp [depsOf, Region.binds])
        have e5 : vs 5 = .bool false := hd.get (j := 5) (by simp [depsOf, Region.binds])
        replace hK : ∀ (uu : Value) (w' : World), Below wx.heap.size wx w' → ((Iz W B C d m ⟨room, fuse, false, L⟩)) w' → (Hb W) (.inl (.bool false)) uu w' → K _ w' := hK
        simp only [Act.put, List.setIfInBounds_toArray, List.set_cons_zero, List.set_cons_succ, e1, e5] at hK ⊢
        have HK := Lib.hid hK
        have HG := Lib.hid hG
        clear hK hd e1 e5
        clear hG
        go_simp
        exact HK.out _ _ (Below.refl _ _) HG.out rfl
      · intro vs wx hG hd K hK
        have e6 : vs 6 = .bool false := hd.get (j := 6) (by simp [depsOf, Region.binds])
        replace hK : ∀ (uu : Value) (w' : World), Below wx.heap.size wx w' → ((Iz W B C d m ⟨room, fuse, false, L⟩)) w' → (Hb W) (.inl (.bool false)) uu w' → K _ w' := hK
        simp only [Act.put, List.setIfInBounds_toArray, List.set_cons_zero, List.set_cons_succ, e6] at hK ⊢
        have HK := Lib.hid hK
        have HG := Lib.hid hG
        clear hK hd e6
        clear hG
        go_simp
        exact HK.out _ _ (Below.refl _ _) HG.out rfl
      · intro vs wx hG hd K hK
        have e7 : vs 7 = .bool false := hd.get (j := 7) (by simp [depsOf, Region.binds])
        replace hK : ∀ (uu : Value) (w' : World), Below wx.heap.size wx w' → ((Iz W B C d m ⟨room, fuse, false, L⟩)) w' → (Hb W) (.inl (dP d)) uu w' → K _ w' := hK
        simp only [Act.put, List.setIfInBounds_toArray, List.set_cons_zero, List.set_cons_succ, e7] at hK ⊢
        have HK := Lib.hid hK
        have HG := Lib.hid hG
        clear hK hd e7
        clear hG
        go_simp
        exact HK.out _ _ (Below.refl _ _) HG.out rfl
      · intro vs wx hG hd K hK
        have e7 : vs 7 = .bool false := hd.get (j := 7) (by simp [depsOf, Region.binds])
        have e8 : vs 8 = dP d := hd.get (j := 8) (by simp [depsOf, Region.binds])
        replace hK : ∀ (uu : Value) (w' : World), Below wx.heap.size wx w' → ((Iz W B C d m ⟨room, fuse, false, L⟩)) w' → (Hb W) (.inl (.int .i64 (sumA L : Nat))) uu w' → K _ w' := hK
        simp only [Act.put, List.setIfInBounds_toArray, List.set_cons_zero, List.set_cons_succ, e7, e8] at hK ⊢
        have HK := Lib.hid hK
        have HG := Lib.hid hG
        clear hK hd e7 e8
        clear hG
        go_simp
        go_at_call 35
        refine (used_DD HG.out.d).mono ?_
        rintro e w1 ⟨rfl, hw⟩; subst hw; have hb := Below.refl w1.heap.size w1
        exact HK.out _ _ hb (HG.out.below hb) rfl
      · intro vs wx hG hd K hK
        have e7 : vs 7 = .bool false := hd.get (j := 7) (by simp [depsOf, Region.binds])
        replace hK : ∀ (uu : Value) (w' : World), Below wx.heap.size wx w' → ((Iz W B C d m ⟨room, fuse, false, L⟩)) w' → (Hb W) (.inl (rP m)) uu w' → K _ w' := hK
        simp only [Act.put, List.setIfInBounds_toArray, List.set_cons_zero, List.set_cons_succ, e7] at hK ⊢
        have HK := Lib.hid hK
        have HG := Lib.hid hG
        clear hK hd e7
        clear hG
        go_simp
        exact HK.out _ _ (Below.refl _ _) HG.out rfl
      · intro vs wx hG hd K hK
        have e7 : vs 7 = .bool false := hd.get (j := 7) (by simp [depsOf, Region.binds])
        have e10 : vs 10 = rP m := hd.get (j := 10) (by simp [depsOf, Region.binds])
        replace hK : ∀ (uu : Value) (w' : World), Below wx.heap.size wx w' → ((Iz W B C d m ⟨room, fuse, false, L⟩)) w' → (Hb W) (.inl (.int .i64 (sumA L : Nat))) uu w' → K _ w' := hK
        simp only [Act.put, List.setIfInBounds_toArray, List.set_cons_zero, List.set_cons_succ, e7, e10] at hK ⊢
        have HK := Lib.hid hK
        have HG := Lib.hid hG
        clear hK hd e7 e10
        clear hG
        go_simp
        go_at_call 36
        refine (rused_RD HG.out.r HL.out).mono ?_
        rintro e w1 ⟨rfl, hw⟩; have hb : Below wx.heap.size wx w1 := hw
        exact HK.out _ _ hb (HG.out.below hb) rfl
      · intro vs wx hG hd K hK
        have e7 : vs 7 = .bool false := hd.get (j := 7) (by simp [depsOf, Region.binds])
        have e9 : vs 9 = .int .i64 (sumA L : Nat) := hd.get (j := 9) (by simp [depsOf, Region.binds])
        have e11 : vs 11 = .int .i64 (sumA L : Nat) := hd.get (j := 11) (by simp [depsOf, Region.binds])
        replace hK : ∀ (uu : Value) (w' : World), Below wx.heap.size wx w' → ((Iz W B C d m ⟨room, fuse, false, L⟩)) w' → (Hb W) (.inl (.bool false)) uu w' → K _ w' := hK
        simp only [Act.put, List.setIfInBounds_toArray, List.set_cons_zero, List.set_cons_succ, e7, e9, e11] at hK ⊢
        have HK := Lib.hid hK
        have HG := Lib.hid hG
        clear hK hd e7 e9 e11
        clear hG
        go_simp
        exact HK.out _ _ (Below.refl _ _) HG.out rfl
      · intro vs wx hG hd K hK
        have e7 : vs 7 = .bool false := hd.get (j := 7) (by simp [depsOf, Region.binds])
        have e12 : vs 12 = .bool false := hd.get (j := 12) (by simp [depsOf, Region.binds])
        replace hK : ∀ (uu : Value) (w' : World), Below wx.heap.size wx w' → ((Iz W B C d m ⟨room, fuse, false, L⟩)) w' → (Hb W) (.inl (.bool false)) uu w' → K _ w' := hK
        simp only [Act.put, List.setIfInBounds_toArray, List.set_cons_zero, List.set_cons_succ, e7, e12] at hK ⊢
        have HK := Lib.hid hK
        have HG := Lib.hid hG
        clear hK hd e7 e12
        clear hG
        go_simp
        exact HK.out _ _ (Below.refl _ _) HG.out rfl
    case hend =>
      intro vs wx hG hv
      have e13 : vs 13 = .bool false := hv 13 (by decide)
      rw [e13]
      have HG := Lib.hid hG
      clear hv e13 hG
      go_wp2_with fail
      refine (segs_DD HG.out.d rfl).mono ?_
      rintro e y1 ⟨v, rfl, so, b1⟩
      obtain ⟨lA, lc, hv⟩ := so.form
      subst hv
      have hI1 := HG.out.below b1
      clear HG HI
      obtain ⟨A, cap, qs, RK1, e1, _⟩ := hI1.r.ex
      simp only at e1 RK1
      subst e1
      simp only [List.map_map, List.length_map] at so ⊢
      have hlim := HL.out
      have hln : qs.length ≤ 1024 := by have := hlim.ln; simpa using this
      have hsm : sumA (qs.map Rq.x) ≤ 67108864 := by have h1 := hlim.le; have h2 := hlim.rm; simp only at h1 h2; omega
      have g1 := RK1.c1
      have g3 := RK1.c3
      have hmlt : m < y1.heap.size := World.block_lt_of_cell? _ _ g1
      have HSO := Lib.hid so
      have HD1 := Lib.hid hI1.d
      have HRK := Lib.hid RK1
      have HB1 := Lib.hid hI1.b
      have hcl := (so.sr encI_len).1.le
      have hcm := (so.sr encI_len).1.max
      rw [List.length_map] at hcl
      unfold maxLen at hcm
      have hql := (RK1.so.sr encQ_len).1.le
      have hqm := (RK1.so.sr encQ_len).1.max
      unfold maxLen at hqm
      clear so b1 hI1 RK1 hlim HL
      go_wp2_with fail
      go_loopw [55] (fun iv wr => ∃ i : Nat, iv = .int .i64 (i : Int) ∧ i ≤ qs.length ∧ Hid (Below y1.heap.size y1 wr)) (fun iv _ => qs.length - (intOf iv).toNat)
      case atStart => exact ⟨0, rfl, Nat.zero_le _, Lib.hid (Below.refl _ _)⟩
      case round =>
        obtain ⟨i, rfl, hi, HT⟩ := hrel
        rename World => y2
        clear g1 g3
        by_cases hlt : i < qs.length
        · obtain ⟨q, hiq⟩ : ∃ q, qs[i]? = some q := ⟨_, List.getElem?_eq_getElem hlt⟩
          obtain ⟨h, rfl⟩ := so_addr HSO.out (by simpa using (by omega : 0 < qs.length))
          obtain ⟨g, rfl⟩ := HRK.out.addr (by omega)
          have hz2 := HT.out.size
          have HLI0 : Hid (∀ wx, Below y1.heap.size y1 wx → wx.cell? ⟨h, i, none⟩ = some (.int .i64 q.x.n)) := Lib.hid fun wx hb => so_slot (HSO.out.below hb) (by rw [List.getElem?_map, hiq]; rfl)
          have hl1 := HLI0.out y2 HT.out
          have i1 : (i : Int) < qs.length := by omega
          have hqm2 := List.mem_of_getElem? hiq
          have hsum : q.x.b.length ≤ 67108864 := Nat.le_trans (sum_mem (List.mem_map_of_mem hqm2)) hsm
          go_wp2_with fail
          refine (read_DD (HD1.out.below HT.out) rfl (x := q.x) (List.mem_map_of_mem hqm2)).mono ?_
          rintro e y3 ⟨A9, c9, rfl, ob9, b2⟩
          have HQL : Hid (qs.length ≤ 1025) := Lib.hid (by omega)
          have hz3 := b2.size
          have b13 : Below y1.heap.size y1 y3 := HT.out.trans (b2.mono hz2)
          have HB13 := Lib.hid b13
          have HRK3 := Lib.hid (HRK.out.below b13)
          have HOB := Lib.hid ob9
          have HLI : Hid (∀ wx, Below y3.heap.size y3 wx → wx.cell? ⟨h, i, none⟩ = some (.int .i64 q.x.n)) := Lib.hid fun wx hb => HLI0.out wx (b13.trans (hb.mono (Nat.le_trans hz2 hz3)))
          have HS9 : Hid (∀ wx, Below y3.heap.size y3 wx → (convert 32 9 (.slice A9 q.x.b.length c9)).run Try.prog wx = .ok (.string (strB q.x.b)) wx) := Lib.hid fun wx hb => bs_str (ob9.below hb).bs.1 rfl
          have hbl := ob9.bs.1.le
          have hbm := ob9.bs.1.max
          unfold maxLen at hbm
          clear hl1 b13 ob9 b2 hqm2
          go_wp2_with fail
          apply region_V (Hb y3) (Gd y3 m room fuse false (some ⟨g, 0, none⟩) cap qs) [.inl (.slice (some ⟨h, 0, none⟩) qs.length lc), .inl (.int .i64 (i : Int)), .inl (.pointer (some ⟨h, i, none⟩)), .inl (.int .i64 q.x.n), .inl (rP m), .inl (rP m), .inl (.pointer (some ⟨m, 1, none⟩)), .inl (.slice (some ⟨g, 0, none⟩) qs.length cap), .inl (.int .i64 (i : Int)), .inl (.pointer (some ⟨g, i * 4, none⟩)), .inl (.pointer (some ⟨g, i * 4, none⟩)), .inl (.int .i64 q.x.n), .inl (.bool false), .inl (.bool false), .inl (.int .i64 0), .inl (.bool false), .inl (.bool false), .inl (.bool false), .inl (.slice A9 q.x.b.length c9), .inl (.string (strB q.x.b)), .inl (rP m), .inl (.int .i64 (i : Int)), .inr q.x.b, .inl (.string (strB q.x.b)), .inl (.bool false), .inl (.bool false)] (.inl undef)
          case mono => exact fun p v w w1 h hb => Hb.mono h hb
          case hm => kernel_rfl
          case hf => kernel_rfl
          case hQ => exact (by intro c x y w e h; exact And.intro (e.symm.trans (And.left h)) (And.right h))
          case hF => intro vs; simp only [putAll, Act.put, List.setIfInBounds_toArray, List.set_cons_zero, List.set_cons_succ, Nat.reduceAdd]; rfl
          case h0 => exact ⟨HRK3.out.below ⟨rfl, rfl, rfl, Nat.le_refl _, fun _ _ => rfl⟩, ⟨rfl, rfl, rfl, Nat.le_refl _, fun _ _ => rfl⟩⟩
          case hstep =>
            repeat' (first | exact AllOps.nil | apply AllOps.cons)
            · intro vs wx hG hd K hK
              replace hK : ∀ (uu : Value) (w' : World), Below wx.heap.size wx w' → ((Gd y3 m room fuse false (some ⟨g, 0, none⟩) cap qs)) w' → (Hb y3) (.inl (.slice (some ⟨h, 0, none⟩) qs.length lc)) uu w' → K _ w' := hK
              simp only [Act.put, List.setIfInBounds_toArray, List.set_cons_zero, List.set_cons_succ] at hK ⊢
              have HK := Lib.hid hK
              have HG := Lib.hid hG
              clear hK hd
              clear hG
              go_simp
              exact HK.out _ _ (Below.refl _ _) HG.out rfl
            · intro vs wx hG hd K hK
              replace hK : ∀ (uu : Value) (w' : World), Below wx.heap.size wx w' → ((Gd y3 m room fuse false (some ⟨g, 0, none⟩) cap qs)) w' → (Hb y3) (.inl (.int .i64 (i : Int))) uu w' → K _ w' := hK
              simp only [Act.put, List.setIfInBounds_toArray, List.set_cons_zero, List.set_cons_succ] at hK ⊢
              have HK := Lib.hid hK
              have HG := Lib.hid hG
              clear hK hd
              clear hG
              go_simp
              exact HK.out _ _ (Below.refl _ _) HG.out rfl
            · intro vs wx hG hd K hK
              have e0 : vs 0 = .slice (some ⟨h, 0, none⟩) qs.length lc := hd.get (j := 0) (by simp [depsOf, Region.binds])
              have e1 : vs 1 = .int .i64 (i : Int) := hd.get (j := 1) (by simp [depsOf, Region.binds])
              replace hK : ∀ (uu : Value) (w' : World), Below wx.heap.size wx w' → ((Gd y3 m room fuse false (some ⟨g, 0, none⟩) cap qs)) w' → (Hb y3) (.inl (.pointer (some ⟨h, i, none⟩))) uu w' → K _ w' := hK
              simp only [Act.put, List.setIfInBounds_toArray, List.set_cons_zero, List.set_cons_succ, e0, e1] at hK ⊢
              have HK := Lib.hid hK
              have HG := Lib.hid hG
              clear hK hd e0 e1
              clear hG
              go_simp
              exact HK.out _ _ (Below.refl _ _) HG.out rfl
            · intro vs wx hG hd K hK
              have e2 : vs 2 = .pointer (some ⟨h, i, none⟩) := hd.get (j := 2) (by simp [depsOf, Region.binds])
              replace hK : ∀ (uu : Value) (w' : World), Below wx.heap.size wx w' → ((Gd y3 m room fuse false (some ⟨g, 0, none⟩) cap qs)) w' → (Hb y3) (.inl (.int .i64 q.x.n)) uu w' → K _ w' := hK
              simp only [Act.put, List.setIfInBounds_toArray, List.set_cons_zero, List.set_cons_succ, e2] at hK ⊢
              have HK := Lib.hid hK
              have HG := Lib.hid hG
              clear hK hd e2
              have hl1 := HLI.out _ HG.out.bel
              clear hG
              go_simp
              exact HK.out _ _ (Below.refl _ _) HG.out rfl
            · intro vs wx hG hd K hK
              replace hK : ∀ (uu : Value) (w' : World), Below wx.heap.size wx w' → ((Gd y3 m room fuse false (some ⟨g, 0, none⟩) cap qs)) w' → (Hb y3) (.inl (rP m)) uu w' → K _ w' := hK
              simp only [Act.put, List.setIfInBounds_toArray, List.set_cons_zero, List.set_cons_succ] at hK ⊢
              have HK := Lib.hid hK
              have HG := Lib.hid hG
              clear hK hd
              clear hG
              go_simp
              exact HK.out _ _ (Below.refl _ _) HG.out rfl
            · intro vs wx hG hd K hK
              have e4 : vs 4 = rP m := hd.get (j := 4) (by simp [depsOf, Region.binds])
              replace hK : ∀ (uu : Value) (w' : World), Below wx.heap.size wx w' → ((Gd y3 m room fuse false (some ⟨g, 0, none⟩) cap qs)) w' → (Hb y3) (.inl (rP m)) uu w' → K _ w' := hK
              simp only [Act.put, List.setIfInBounds_toArray, List.set_cons_zero, List.set_cons_succ, e4] at hK ⊢
              have HK := Lib.hid hK
              have HG := Lib.hid hG
              clear hK hd e4
              clear hG
              go_simp
              exact HK.out _ _ (Below.refl _ _) HG.out rfl
            · intro vs wx hG hd K hK
              have e5 : vs 5 = rP m := hd.get (j := 5) (by simp [depsOf, Region.binds])
              replace hK : ∀ (uu : Value) (w' : World), Below wx.heap.size wx w' → ((Gd y3 m room fuse false (some ⟨g, 0, none⟩) cap qs)) w' → (Hb y3) (.inl (.pointer (some ⟨m, 1, none⟩))) uu w' → K _ w' := hK
              simp only [Act.put, List.setIfInBounds_toArray, List.set_cons_zero, List.set_cons_succ, e5] at hK ⊢
              have HK := Lib.hid hK
              have HG := Lib.hid hG
              clear hK hd e5
              clear hG
              go_simp
              exact HK.out _ _ (Below.refl _ _) HG.out rfl
            · intro vs wx hG hd K hK
              have e6 : vs 6 = .pointer (some ⟨m, 1, none⟩) := hd.get (j := 6) (by simp [depsOf, Region.binds])
              replace hK : ∀ (uu : Value) (w' : World), Below wx.heap.size wx w' → ((Gd y3 m room fuse false (some ⟨g, 0, none⟩) cap qs)) w' → (Hb y3) (.inl (.slice (some ⟨g, 0, none⟩) qs.length cap)) uu w' → K _ w' := hK
              simp only [Act.put, List.setIfInBounds_toArray, List.set_cons_zero, List.set_cons_succ, e6] at hK ⊢
              have HK := Lib.hid hK
              have HG := Lib.hid hG
              clear hK hd e6
              have gc1 := HG.out.c1
              obtain ⟨gs, _⟩ := HG.out.slot hiq
              have gs0 : wx.cell? ⟨g, i * 4, none⟩ = some (.int .i64 q.x.n) := gs 0 _ rfl
              clear hG gs
              go_simp
              exact HK.out _ _ (Below.refl _ _) HG.out rfl
            · intro vs wx hG hd K hK
              replace hK : ∀ (uu : Value) (w' : World), Below wx.heap.size wx w' → ((Gd y3 m room fuse false (some ⟨g, 0, none⟩) cap qs)) w' → (Hb y3) (.inl (.int .i64 (i : Int))) uu w' → K _ w' := hK
              simp only [Act.put, List.setIfInBounds_toArray, List.set_cons_zero, List.set_cons_succ] at hK ⊢
              have HK := Lib.hid hK
              have HG := Lib.hid hG
              clear hK hd
              clear hG
              go_simp
              exact HK.out _ _ (Below.refl _ _) HG.out rfl
            · intro vs wx hG hd K hK
              have e7 : vs 7 = .slice (some ⟨g, 0, none⟩) qs.length cap := hd.get (j := 7) (by simp [depsOf, Region.binds])
              have e8 : vs 8 = .int .i64 (i : Int) := hd.get (j := 8) (by simp [depsOf, Region.binds])
              replace hK : ∀ (uu : Value) (w' : World), Below wx.heap.size wx w' → ((Gd y3 m room fuse false (some ⟨g, 0, none⟩) cap qs)) w' → (Hb y3) (.inl (.pointer (some ⟨g, i * 4, none⟩))) uu w' → K _ w' := hK
              simp only [Act.put, List.setIfInBounds_toArray, List.set_cons_zero, List.set_cons_succ, e7, e8] at hK ⊢
              have HK := Lib.hid hK
              have HG := Lib.hid hG
              clear hK hd e7 e8
              clear hG
              go_simp
              exact HK.out _ _ (Below.refl _ _) HG.out rfl
            · intro vs wx hG hd K hK
              have e9 : vs 9 = .pointer (some ⟨g, i * 4, none⟩) := hd.get (j := 9) (by simp [depsOf, Region.binds])
              replace hK : ∀ (uu : Value) (w' : World), Below wx.heap.size wx w' → ((Gd y3 m room fuse false (some ⟨g, 0, none⟩) cap qs)) w' → (Hb y3) (.inl (.pointer (some ⟨g, i * 4, none⟩))) uu w' → K _ w' := hK
              simp only [Act.put, List.setIfInBounds_toArray, List.set_cons_zero, List.set_cons_succ, e9] at hK ⊢
              have HK := Lib.hid hK
              have HG := Lib.hid hG
              clear hK hd e9
              clear hG
              go_simp
              exact HK.out _ _ (Below.refl _ _) HG.out rfl
            · intro vs wx hG hd K hK
              have e10 : vs 10 = .pointer (some ⟨g, i * 4, none⟩) := hd.get (j := 10) (by simp [depsOf, Region.binds])
              replace hK : ∀ (uu : Value) (w' : World), Below wx.heap.size wx w' → ((Gd y3 m room fuse false (some ⟨g, 0, none⟩) cap qs)) w' → (Hb y3) (.inl (.int .i64 q.x.n)) uu w' → K _ w' := hK
              simp only [Act.put, List.setIfInBounds_toArray, List.set_cons_zero, List.set_cons_succ, e10] at hK ⊢
              have HK := Lib.hid hK
              have HG := Lib.hid hG
              clear hK hd e10
              have gc1 := HG.out.c1
              obtain ⟨gs, _⟩ := HG.out.slot hiq
              have gs0 : wx.cell? ⟨g, i * 4, none⟩ = some (.int .i64 q.x.n) := gs 0 _ rfl
              clear hG gs
              go_simp
              exact HK.out _ _ (Below.refl _ _) HG.out rfl
            · intro vs wx hG hd K hK
              have e3 : vs 3 = .int .i64 q.x.n := hd.get (j := 3) (by simp [depsOf, Region.binds])
              have e11 : vs 11 = .int .i64 q.x.n := hd.get (j := 11) (by simp [depsOf, Region.binds])
              replace hK : ∀ (uu : Value) (w' : World), Below wx.heap.size wx w' → ((Gd y3 m room fuse false (some ⟨g, 0, none⟩) cap qs)) w' → (Hb y3) (.inl (.bool false)) uu w' → K _ w' := hK
              simp only [Act.put, List.setIfInBounds_toArray, List.set_cons_zero, List.set_cons_succ, e3, e11] at hK ⊢
              have HK := Lib.hid hK
              have HG := Lib.hid hG
              clear hK hd e3 e11
              clear hG
              go_simp
              exact HK.out _ _ (Below.refl _ _) HG.out rfl
            · intro vs wx hG hd K hK
              have e12 : vs 12 = .bool false := hd.get (j := 12) (by simp [depsOf, Region.binds])
              replace hK : ∀ (uu : Value) (w' : World), Below wx.heap.size wx w' → ((Gd y3 m room fuse false (some ⟨g, 0, none⟩) cap qs)) w' → (Hb y3) (.inl (.bool false)) uu w' → K _ w' := hK
              simp only [Act.put, List.setIfInBounds_toArray, List.set_cons_zero, List.set_cons_succ, e12] at hK ⊢
              have HK := Lib.hid hK
              have HG := Lib.hid hG
              clear hK hd e12
              clear hG
              go_simp
              exact HK.out _ _ (Below.refl _ _) HG.out rfl
            · intro vs wx hG hd K hK
              have e13 : vs 13 = .bool false := hd.get (j := 13) (by simp [depsOf, Region.binds])
              replace hK : ∀ (uu : Value) (w' : World), Below wx.heap.size wx w' → ((Gd y3 m room fuse false (some ⟨g, 0, none⟩) cap qs)) w' → (Hb y3) (.inl (.int .i64 0)) uu w' → K _ w' := hK
              simp only [Act.put, List.setIfInBounds_toArray, List.set_cons_zero, List.set_cons_succ, e13] at hK ⊢
              have HK := Lib.hid hK
              have HG := Lib.hid hG
              clear hK hd e13
              clear hG
              go_simp
              exact HK.out _ _ (Below.refl _ _) HG.out rfl
            · intro vs wx hG hd K hK
              have e13 : vs 13 = .bool false := hd.get (j := 13) (by simp [depsOf, Region.binds])
              have e14 : vs 14 = .int .i64 0 := hd.get (j := 14) (by simp [depsOf, Region.binds])
              replace hK : ∀ (uu : Value) (w' : World), Below wx.heap.size wx w' → ((Gd y3 m room fuse false (some ⟨g, 0, none⟩) cap qs)) w' → (Hb y3) (.inl (.bool false)) uu w' → K _ w' := hK
              simp only [Act.put, List.setIfInBounds_toArray, List.set_cons_zero, List.set_cons_succ, e13, e14] at hK ⊢
              have HK := Lib.hid hK
              have HG := Lib.hid hG
              clear hK hd e13 e14
              clear hG
              go_simp
              exact HK.out _ _ (Below.refl _ _) HG.out rfl
            · intro vs wx hG hd K hK
              have e13 : vs 13 = .bool false := hd.get (j := 13) (by simp [depsOf, Region.binds])
              have e15 : vs 15 = .bool false := hd.get (j := 15) (by simp [depsOf, Region.binds])
              replace hK : ∀ (uu : Value) (w' : World), Below wx.heap.size wx w' → ((Gd y3 m room fuse false (some ⟨g, 0, none⟩) cap qs)) w' → (Hb y3) (.inl (.bool false)) uu w' → K _ w' := hK
              simp only [Act.put, List.setIfInBounds_toArray, List.set_cons_zero, List.set_cons_succ, e13, e15] at hK ⊢
              have HK := Lib.hid hK
              have HG := Lib.hid hG
              clear hK hd e13 e15
              clear hG
              go_simp
              exact HK.out _ _ (Below.refl _ _) HG.out rfl
            · intro vs wx hG hd K hK
              have e16 : vs 16 = .bool false := hd.get (j := 16) (by simp [depsOf, Region.binds])
              replace hK : ∀ (uu : Value) (w' : World), Below wx.heap.size wx w' → ((Gd y3 m room fuse false (some ⟨g, 0, none⟩) cap qs)) w' → (Hb y3) (.inl (.bool false)) uu w' → K _ w' := hK
              simp only [Act.put, List.setIfInBounds_toArray, List.set_cons_zero, List.set_cons_succ, e16] at hK ⊢
              have HK := Lib.hid hK
              have HG := Lib.hid hG
              clear hK hd e16
              clear hG
              go_simp
              exact HK.out _ _ (Below.refl _ _) HG.out rfl
            · intro vs wx hG hd K hK
              have e17 : vs 17 = .bool false := hd.get (j := 17) (by simp [depsOf, Region.binds])
              replace hK : ∀ (uu : Value) (w' : World), Below wx.heap.size wx w' → ((Gd y3 m room fuse false (some ⟨g, 0, none⟩) cap qs)) w' → (Hb y3) (.inl (.slice A9 q.x.b.length c9)) uu w' → K _ w' := hK
              simp only [Act.put, List.setIfInBounds_toArray, List.set_cons_zero, List.set_cons_succ, e17] at hK ⊢
              have HK := Lib.hid hK
              have HG := Lib.hid hG
              clear hK hd e17
              clear hG
              go_simp
              exact HK.out _ _ (Below.refl _ _) HG.out rfl
            · intro vs wx hG hd K hK
              have e17 : vs 17 = .bool false := hd.get (j := 17) (by simp [depsOf, Region.binds])
              have e18 : vs 18 = .slice A9 q.x.b.length c9 := hd.get (j := 18) (by simp [depsOf, Region.binds])
              replace hK : ∀ (uu : Value) (w' : World), Below wx.heap.size wx w' → ((Gd y3 m room fuse false (some ⟨g, 0, none⟩) cap qs)) w' → (Hb y3) (.inl (.string (strB q.x.b))) uu w' → K _ w' := hK
              simp only [Act.put, List.setIfInBounds_toArray, List.set_cons_zero, List.set_cons_succ, e17, e18] at hK ⊢
              have HK := Lib.hid hK
              have HG := Lib.hid hG
              clear hK hd e17 e18
              have hs9 := HS9.out _ HG.out.bel
              clear hG
              go_simp
              exact HK.out _ _ (Below.refl _ _) HG.out rfl
            · intro vs wx hG hd K hK
              have e17 : vs 17 = .bool false := hd.get (j := 17) (by simp [depsOf, Region.binds])
              replace hK : ∀ (uu : Value) (w' : World), Below wx.heap.size wx w' → ((Gd y3 m room fuse false (some ⟨g, 0, none⟩) cap qs)) w' → (Hb y3) (.inl (rP m)) uu w' → K _ w' := hK
              simp only [Act.put, List.setIfInBounds_toArray, List.set_cons_zero, List.set_cons_succ, e17] at hK ⊢
              have HK := Lib.hid hK
              have HG := Lib.hid hG
              clear hK hd e17
              clear hG
              go_simp
              exact HK.out _ _ (Below.refl _ _) HG.out rfl
            · intro vs wx hG hd K hK
              have e17 : vs 17 = .bool false := hd.get (j := 17) (by simp [depsOf, Region.binds])
              replace hK : ∀ (uu : Value) (w' : World), Below wx.heap.size wx w' → ((Gd y3 m room fuse false (some ⟨g, 0, none⟩) cap qs)) w' → (Hb y3) (.inl (.int .i64 (i : Int))) uu w' → K _ w' := hK
              simp only [Act.put, List.setIfInBounds_toArray, List.set_cons_zero, List.set_cons_succ, e17] at hK ⊢
              have HK := Lib.hid hK
              have HG := Lib.hid hG
              clear hK hd e17
              clear hG
              go_simp
              exact HK.out _ _ (Below.refl _ _) HG.out rfl
            · intro vs wx hG hd K hK
              have e17 : vs 17 = .bool false := hd.get (j := 17) (by simp [depsOf, Region.binds])
              have e20 : vs 20 = rP m := hd.get (j := 20) (by simp [depsOf, Region.binds])
              have e21 : vs 21 = .int .i64 (i : Int) := hd.get (j := 21) (by simp [depsOf, Region.binds])
              replace hK : ∀ (uu : Value) (w' : World), Below wx.heap.size wx w' → ((Gd y3 m room fuse false (some ⟨g, 0, none⟩) cap qs)) w' → (Hb y3) (.inr q.x.b) uu w' → K _ w' := hK
              simp only [Act.put, List.setIfInBounds_toArray, List.set_cons_zero, List.set_cons_succ, e17, e20, e21] at hK ⊢
              have HK := Lib.hid hK
              have HG := Lib.hid hG
              clear hK hd e17 e20 e21
              clear hG
              go_simp
              go_at_call 31
              refine (rbytes_any HG.out.k hiq HQL.out hsum).mono ?_
              rintro e w1 ⟨A8, c8, rfl, ho, hb⟩
              exact HK.out _ _ hb (HG.out.below hb) ⟨A8, c8, rfl, ho.more HG.out.bel.size⟩
            · intro vs wx hG hd K hK
              have e17 : vs 17 = .bool false := hd.get (j := 17) (by simp [depsOf, Region.binds])
              obtain ⟨A22, c22, e22, q22⟩ : ∃ Aq cq, vs 22 = .slice Aq q.x.b.length cq ∧ Ob wx y3.heap.size (.slice Aq q.x.b.length cq) q.x.b := hd.get (j := 22) (by simp [depsOf, Region.binds])
              replace hK : ∀ (uu : Value) (w' : World), Below wx.heap.size wx w' → ((Gd y3 m room fuse false (some ⟨g, 0, none⟩) cap qs)) w' → (Hb y3) (.inl (.string (strB q.x.b))) uu w' → K _ w' := hK
              simp only [Act.put, List.setIfInBounds_toArray, List.set_cons_zero, List.set_cons_succ, e17, e22] at hK ⊢
              have HK := Lib.hid hK
              have HG := Lib.hid hG
              clear hK hd e17 e22
              have hs8 := bs_str q22.bs.1 rfl
              clear q22
              clear hG
              go_simp
              exact HK.out _ _ (Below.refl _ _) HG.out rfl
            · intro vs wx hG hd K hK
              have e17 : vs 17 = .bool false := hd.get (j := 17) (by simp [depsOf, Region.binds])
              have e19 : vs 19 = .string (strB q.x.b) := hd.get (j := 19) (by simp [depsOf, Region.binds])
              have e23 : vs 23 = .string (strB q.x.b) := hd.get (j := 23) (by simp [depsOf, Region.binds])
              replace hK : ∀ (uu : Value) (w' : World), Below wx.heap.size wx w' → ((Gd y3 m room fuse false (some ⟨g, 0, none⟩) cap qs)) w' → (Hb y3) (.inl (.bool false)) uu w' → K _ w' := hK
              simp only [Act.put, List.setIfInBounds_toArray, List.set_cons_zero, List.set_cons_succ, e17, e19, e23] at hK ⊢
              have HK := Lib.hid hK
              have HG := Lib.hid hG
              clear hK hd e17 e19 e23
              clear hG
              go_simp
              exact HK.out _ _ (Below.refl _ _) HG.out rfl
            · intro vs wx hG hd K hK
              have e17 : vs 17 = .bool false := hd.get (j := 17) (by simp [depsOf, Region.binds])
              have e24 : vs 24 = .bool false := hd.get (j := 24) (by simp [depsOf, Region.binds])
              replace hK : ∀ (uu : Value) (w' : World), Below wx.heap.size wx w' → ((Gd y3 m room fuse false (some ⟨g, 0, none⟩) cap qs)) w' → (Hb y3) (.inl (.bool false)) uu w' → K _ w' := hK
              simp only [Act.put, List.setIfInBounds_toArray, List.set_cons_zero, List.set_cons_succ, e17, e24] at hK ⊢
              have HK := Lib.hid hK
              have HG := Lib.hid hG
              clear hK hd e17 e24
              clear hG
              go_simp
              exact HK.out _ _ (Below.refl _ _) HG.out rfl
          case hend =>
            intro vs wx hG hv
            have e25 : vs 25 = .bool false := hv 25 (by decide)
            rw [e25]
            have HO4 := Lib.hid (HOB.out.below hG.bel)
            have HB4 := Lib.hid (HB13.out.trans (hG.bel.mono HB13.out.size))
            clear hv e25 hG
            go_wp2_with fail
            go_loopw [95] (fun iv wr => ∃ j : Nat, iv = .int .i64 (j : Int) ∧ j ≤ q.x.b.length ∧ Hid (Tn (fun k => (Value.slice A9 q.x.b.length c9).ownBlock = some k) wx wr) ∧ Hid (∀ g, A9 = some ⟨g, 0, none⟩ → (∀ k (hk : k < q.x.b.length), j ≤ k → wr.cell? ⟨g, k, none⟩ = some (bv q.x.b[k])) ∧ ∀ k, k < q.x.b.length → wr.frozen? ⟨g, k, none⟩ = false)) (fun iv _ => q.x.b.length - (intOf iv).toNat)
            case atStart => exact ⟨0, rfl, Nat.zero_le _, Lib.hid (Tn.refl _ _), Lib.hid fun g hg => by
              subst hg
              exact ⟨fun j hj _ => (HO4.out.slot hj).1, fun j hj => (HO4.out.slot hj).2.1⟩⟩
            case round =>
              obtain ⟨j, rfl, hj, HTN, HCELL⟩ := hrel
              rename World => y4
              by_cases hjl : j < q.x.b.length
              · obtain ⟨g9, hg, _⟩ := HO4.out.addr (by omega)
                subst hg
                have j1 : (j : Int) < q.x.b.length := by omega
                have v1 : y4.cell? ⟨g9, j, none⟩ = some (.int .u8 (q.x.b[j].toNat : Int)) := (HCELL.out g9 rfl).1 j hjl (Nat.le_refl _)
                have v2 := (HCELL.out g9 rfl).2 j hjl
                have HN : Hid (∀ v, Tn (fun k => (Value.slice (some ⟨g9, 0, none⟩) q.x.b.length c9).ownBlock = some k) wx (y4.setCell ⟨g9, j, none⟩ v)) := Lib.hid fun v => HTN.out.thenQ (Tn.setCell y4 g9 j v) fun k _ e => by have h9 : k = g9 := e; subst h9; rfl
                have HM : Hid (∀ v, ∀ g', some (⟨g9, 0, none⟩ : Addr) = some ⟨g', 0, none⟩ → (∀ k (hk : k < q.x.b.length), j + 1 ≤ k → (y4.setCell ⟨g9, j, none⟩ v).cell? ⟨g', k, none⟩ = some (bv q.x.b[k])) ∧ ∀ k, k < q.x.b.length → (y4.setCell ⟨g9, j, none⟩ v).frozen? ⟨g', k, none⟩ = false) := Lib.hid fun v g' hg' => by
                  cases hg'
                  refine ⟨fun k hk hjk => ?_, fun k hk => ?_⟩
                  · have h1 := (HCELL.out g9 rfl).1 k hk (by omega)
                    simp [go_sem, h1]
                  · have h1 := (HCELL.out g9 rfl).2 k hk
                    simp [go_sem, h1]
                clear HCELL HTN
                generalize q.x.b[j] = x at v1
                go_wp2_with fail
                go_roundw
                case rel => exact ⟨j + 1, by go_num, by omega, Lib.hid (HN.out _), Lib.hid (HM.out _)⟩
                case measure => simp [intOf]; omega
              · have j1 : ¬ (j : Int) < q.x.b.length := by omega
                have HB5 : Hid (Below y1.heap.size y1 y4) := Lib.hid (HTN.out.bel HB4.out (fun k hk => Nat.le_trans hz2 (HO4.out.lt k hk).1) (Nat.le_refl _))
                clear HTN HCELL
                go_wp2_with fail
                go_roundw
                case rel => exact ⟨i + 1, by go_num, by omega, Lib.hid HB5.out⟩
                case measure => simp [intOf]; omega
        · have HBE := Lib.hid (HB1.out.trans (HT.out.mono HB1.out.size))
          have i1 : ¬ (i : Int) < qs.length := by omega
          go_wp2_with fail
          go_ret
          exact ⟨rfl, HBE.out⟩
  · have HC3 : Hid (∀ wx, RD wx C m ⟨room, fuse, true, L⟩ → wx.cell? ⟨m, 3, none⟩ = some (.bool true)) := Lib.hid fun wx h => h.c3
    go_enter Try.func11, Try.ntmps11
    go_wp2_with fail
    apply region_V (Hb W) (Iz W B C d m ⟨room, fuse, true, L⟩) [.inl (dP d), .inl (.bool true), .inl (rP m), .inl (rP m), .inl (.pointer (some ⟨m, 3, none⟩)), .inl (.bool true), .inl (.bool false), .inl (.bool false), .inl (dP d), .inl (.int .i64 (sumA L : Nat)), .inl (rP m), .inl (.int .i64 (sumA L : Nat)), .inl (.bool false), .inl (.bool false)] (.inl undef)
    case mono => exact fun p v w w1 h hb => Hb.mono h hb
    case hm => kernel_rfl
    case hf => kernel_rfl
    case hQ => exact (by intro c x y w e h; exact And.intro (e.symm.trans (And.left h)) (And.right h))
    case hF => intro vs; simp only [putAll, Act.put, List.setIfInBounds_toArray, List.set_cons_zero, List.set_cons_succ, Nat.reduceAdd]; rfl
    case h0 => exact (HI.out.below ⟨rfl, rfl, rfl, Nat.le_refl _, fun _ _ => rfl⟩)
    case hstep =>
      repeat' (first | exact AllOps.nil | apply AllOps.cons)
      · intro vs wx hG hd K hK
        replace hK : ∀ (uu : Value) (w' : World), Below wx.heap.size wx w' → ((Iz W B C d m ⟨room, fuse, true, L⟩)) w' → (Hb W) (.inl (dP d)) uu w' → K _ w' := hK
        simp only [Act.put, List.setIfInBounds_toArray, List.set_cons_zero, List.set_cons_succ] at hK ⊢
        have HK := Lib.hid hK
        have HG := Lib.hid hG
        clear hK hd
        clear hG
        go_simp
        exact HK.out _ _ (Below.refl _ _) HG.out rfl
      · intro vs wx hG hd K hK
        have e0 : vs 0 = dP d := hd.get (j := 0) (by simp [depsOf, Region.binds])
        replace hK : ∀ (uu : Value) (w' : World), Below wx.heap.size wx w' → ((Iz W B C d m ⟨room, fuse, true, L⟩)) w' → (Hb W) (.inl (.bool true)) uu w' → K _ w' := hK
        simp only [Act.put, List.setIfInBounds_toArray, List.set_cons_zero, List.set_cons_succ, e0] at hK ⊢
        have HK := Lib.hid hK
        have HG := Lib.hid hG
        clear hK hd e0
        clear hG
        go_simp
        go_at_call 34
        refine (down_DD HG.out.d).mono ?_
        rintro e w1 ⟨rfl, hw⟩; subst hw; have hb := Below.refl w1.heap.size w1
        exact HK.out _ _ hb (HG.out.below hb) rfl
      · intro vs wx hG hd K hK
        replace hK : ∀ (uu : Value) (w' : World), Below wx.heap.size wx w' → ((Iz W B C d m ⟨room, fuse, true, L⟩)) w' → (Hb W) (.inl (rP m)) uu w' → K _ w' := hK
        simp only [Act.put, List.setIfInBounds_toArray, List.set_cons_zero, List.set_cons_succ] at hK ⊢
        have HK := Lib.hid hK
        have HG := Lib.hid hG
        clear hK hd
        clear hG
        go_simp
        exact HK.out _ _ (Below.refl _ _) HG.out rfl
      · intro vs wx hG hd K hK
        have e2 : vs 2 = rP m := hd.get (j := 2) (by simp [depsOf, Region.binds])
        replace hK : ∀ (uu : Value) (w' : World), Below wx.heap.size wx w' → ((Iz W B C d m ⟨room, fuse, true, L⟩)) w' → (Hb W) (.inl (rP m)) uu w' → K _ w' := hK
        simp only [Act.put, List.setIfInBounds_toArray, List.set_cons_zero, List.set_cons_succ, e2] at hK ⊢
        have HK := Lib.hid hK
        have HG := Lib.hid hG
        clear hK hd e2
        clear hG
        go_simp
        exact HK.out _ _ (Below.refl _ _) HG.out rfl
      · intro vs wx hG hd K hK
        have e3 : vs 3 = rP m := hd.get (j := 3) (by simp [depsOf, Region.binds])
        replace hK : ∀ (uu : Value) (w' : World), Below wx.heap.size wx w' → ((Iz W B C d m ⟨room, fuse, true, L⟩)) w' → (Hb W) (.inl (.pointer (some ⟨m, 3, none⟩))) uu w' → K _ w' := hK
        simp only [Act.put, List.setIfInBounds_toArray, List.set_cons_zero, List.set_cons_succ, e3] at hK ⊢
        have HK := Lib.hid hK
        have HG := Lib.hid hG
        clear hK hd e3
        clear hG
        go_simp
        exact HK.out _ _ (Below.refl _ _) HG.out rfl
      · intro vs wx hG hd K hK
        have e4 : vs 4 = .pointer (some ⟨m, 3, none⟩) := hd.get (j := 4) (by simp [depsOf, Region.binds])
        replace hK : ∀ (uu : Value) (w' : World), Below wx.heap.size wx w' → ((Iz W B C d m ⟨room, fuse, true, L⟩)) w' → (Hb W) (.inl (.bool true)) uu w' → K _ w' := hK
        simp only [Act.put, List.setIfInBounds_toArray, List.set_cons_zero, List.set_cons_succ, e4] at hK ⊢
        have HK := Lib.hid hK
        have HG := Lib.hid hG
        clear hK hd e4
        have g3 := HC3.out _ HG.out.r
        clear hG
        go_simp
        exact HK.out _ _ (Below.refl _ _) HG.out rfl
      · intro vs wx hG hd K hK
        have e1 : vs 1 = .bool true := hd.get (j := 1) (by simp [depsOf, Region.binds])
        have e5 : vs 5 = .bool true := hd.get (j := 5) (by simp [depsOf, Region.binds])
        replace hK : ∀ (uu : Value) (w' : World), Below wx.heap.size wx w' → ((Iz W B C d m ⟨room, fuse, true, L⟩)) w' → (Hb W) (.inl (.bool false)) uu w' → K _ w' := hK
        simp only [Act.put, List.setIfInBounds_toArray, List.set_cons_zero, List.set_cons_succ, e1, e5] at hK ⊢
        have HK := Lib.hid hK
        have HG := Lib.hid hG
        clear hK hd e1 e5
        clear hG
        go_simp
        exact HK.out _ _ (Below.refl _ _) HG.out rfl
      · intro vs wx hG hd K hK
        have e6 : vs 6 = .bool false := hd.get (j := 6) (by simp [depsOf, Region.binds])
        replace hK : ∀ (uu : Value) (w' : World), Below wx.heap.size wx w' → ((Iz W B C d m ⟨room, fuse, true, L⟩)) w' → (Hb W) (.inl (.bool false)) uu w' → K _ w' := hK
        simp only [Act.put, List.setIfInBounds_toArray, List.set_cons_zero, List.set_cons_succ, e6] at hK ⊢
        have HK := Lib.hid hK
        have HG := Lib.hid hG
        clear hK hd e6
        clear hG
        go_simp
        exact HK.out _ _ (Below.refl _ _) HG.out rfl
      · intro vs wx hG hd K hK
        have e7 : vs 7 = .bool false := hd.get (j := 7) (by simp [depsOf, Region.binds])
        replace hK : ∀ (uu : Value) (w' : World), Below wx.heap.size wx w' → ((Iz W B C d m ⟨room, fuse, true, L⟩)) w' → (Hb W) (.inl (dP d)) uu w' → K _ w' := hK
        simp only [Act.put, List.setIfInBounds_toArray, List.set_cons_zero, List.set_cons_succ, e7] at hK ⊢
        have HK := Lib.hid hK
        have HG := Lib.hid hG
        clear hK hd e7
        clear hG
        go_simp
        exact HK.out _ _ (Below.refl _ _) HG.out rfl
      · intro vs wx hG hd K hK
        have e7 : vs 7 = .bool false := hd.get (j := 7) (by simp [depsOf, Region.binds])
        have e8 : vs 8 = dP d := hd.get (j := 8) (by simp [depsOf, Region.binds])
        replace hK : ∀ (uu : Value) (w' : World), Below wx.heap.size wx w' → ((Iz W B C d m ⟨room, fuse, true, L⟩)) w' → (Hb W) (.inl (.int .i64 (sumA L : Nat))) uu w' → K _ w' := hK
        simp only [Act.put, List.setIfInBounds_toArray, List.set_cons_zero, List.set_cons_succ, e7, e8] at hK ⊢
        have HK := Lib.hid hK
        have HG := Lib.hid hG
        clear hK hd e7 e8
        clear hG
        go_simp
        go_at_call 35
        refine (used_DD HG.out.d).mono ?_
        rintro e w1 ⟨rfl, hw⟩; subst hw; have hb := Below.refl w1.heap.size w1
        exact HK.out _ _ hb (HG.out.below hb) rfl
      · intro vs wx hG hd K hK
        have e7 : vs 7 = .bool false := hd.get (j := 7) (by simp [depsOf, Region.binds])
        replace hK : ∀ (uu : Value) (w' : World), Below wx.heap.size wx w' → ((Iz W B C d m ⟨room, fuse, true, L⟩)) w' → (Hb W) (.inl (rP m)) uu w' → K _ w' := hK
        simp only [Act.put, List.setIfInBounds_toArray, List.set_cons_zero, List.set_cons_succ, e7] at hK ⊢
        have HK := Lib.hid hK
        have HG := Lib.hid hG
        clear hK hd e7
        clear hG
        go_simp
        exact HK.out _ _ (Below.refl _ _) HG.out rfl
      · intro vs wx hG hd K hK
        have e7 : vs 7 = .bool false := hd.get (j := 7) (by simp [depsOf, Region.binds])
        have e10 : vs 10 = rP m := hd.get (j := 10) (by simp [depsOf, Region.binds])
        replace hK : ∀ (uu : Value) (w' : World), Below wx.heap.size wx w' → ((Iz W B C d m ⟨room, fuse, true, L⟩)) w' → (Hb W) (.inl (.int .i64 (sumA L : Nat))) uu w' → K _ w' := hK
        simp only [Act.put, List.setIfInBounds_toArray, List.set_cons_zero, List.set_cons_succ, e7, e10] at hK ⊢
        have HK := Lib.hid hK
        have HG := Lib.hid hG
        clear hK hd e7 e10
        clear hG
        go_simp
        go_at_call 36
        refine (rused_RD HG.out.r HL.out).mono ?_
        rintro e w1 ⟨rfl, hw⟩; have hb : Below wx.heap.size wx w1 := hw
        exact HK.out _ _ hb (HG.out.below hb) rfl
      · intro vs wx hG hd K hK
        have e7 : vs 7 = .bool false := hd.get (j := 7) (by simp [depsOf, Region.binds])
        have e9 : vs 9 = .int .i64 (sumA L : Nat) := hd.get (j := 9) (by simp [depsOf, Region.binds])
        have e11 : vs 11 = .int .i64 (sumA L : Nat) := hd.get (j := 11) (by simp [depsOf, Region.binds])
        replace hK : ∀ (uu : Value) (w' : World), Below wx.heap.size wx w' → ((Iz W B C d m ⟨room, fuse, true, L⟩)) w' → (Hb W) (.inl (.bool false)) uu w' → K _ w' := hK
        simp only [Act.put, List.setIfInBounds_toArray, List.set_cons_zero, List.set_cons_succ, e7, e9, e11] at hK ⊢
        have HK := Lib.hid hK
        have HG := Lib.hid hG
        clear hK hd e7 e9 e11
        clear hG
        go_simp
        exact HK.out _ _ (Below.refl _ _) HG.out rfl
      · intro vs wx hG hd K hK
        have e7 : vs 7 = .bool false := hd.get (j := 7) (by simp [depsOf, Region.binds])
        have e12 : vs 12 = .bool false := hd.get (j := 12) (by simp [depsOf, Region.binds])
        replace hK : ∀ (uu : Value) (w' : World), Below wx.heap.size wx w' → ((Iz W B C d m ⟨room, fuse, true, L⟩)) w' → (Hb W) (.inl (.bool false)) uu w' → K _ w' := hK
        simp only [Act.put, List.setIfInBounds_toArray, List.set_cons_zero, List.set_cons_succ, e7, e12] at hK ⊢
        have HK := Lib.hid hK
        have HG := Lib.hid hG
        clear hK hd e7 e12
        clear hG
        go_simp
        exact HK.out _ _ (Below.refl _ _) HG.out rfl
    case hend =>
      intro vs wx hG hv
      have e13 : vs 13 = .bool false := hv 13 (by decide)
      rw [e13]
      have HG := Lib.hid hG
      clear hv e13 hG
      go_wp2_with fail
      refine (segs_DDn HG.out.d).mono ?_
      rintro e y1 ⟨rfl, hy⟩
      replace hy := hy.symm
      subst hy
      have g3 := HC3.out _ HG.out.r
      have HB := Lib.hid HG.out.b
      clear HG HI
      go_wp2_with fail
      go_ret
      exact ⟨rfl, HB.out⟩
end
end Go.Proofs.Ytkkaehaoahpibaa
