/- The law PostPlays: its walk. -/
import Derived.Test.YtejbjnjnabcleaaPSt
import Derived.Deep.RegionLaw
import Derived.Deep.RegionHeld3
import Derived.Deep.CutBlock
namespace Go.Proofs.Ytejbjnjnabcleaa
open Go.RowKit Go.Conc

theorem bs_nil (w : World) (K : Nat) : Bs w K none 0 [] := ⟨Nat.le_refl _, by unfold maxLen; omega, fun _ => rfl, fun h => absurd h (by simp)⟩
/-- Three cells of a box, written. -/
theorem put_cs3 {w : World} {b : Nat} {x y z : Value} (h : CS w b [x, y, z]) (x' y' z' : Value) : CS (((w.setCell ⟨b, 0, none⟩ x').setCell ⟨b, 1, none⟩ y').setCell ⟨b, 2, none⟩ z') b [x', y', z'] ∧ Tn (· = b) w (((w.setCell ⟨b, 0, none⟩ x').setCell ⟨b, 1, none⟩ y').setCell ⟨b, 2, none⟩ z') := by
  have h0 := h.at_ 0 _ rfl
  have h1 := h.at_ 1 _ rfl
  have h2 := h.at_ 2 _ rfl
  refine ⟨⟨fun i v hi => ?_, fun o => ?_, ?_⟩, ((Tn.setCell w b 0 x').then (Tn.setCell _ b 1 y')).then (Tn.setCell _ b 2 z')⟩
  · match i, hi with
    | 0, hi =>
      simp at hi
      subst hi
      rw [World.cell?_setCell_other _ _ _ _ (by simp), World.cell?_setCell_other _ _ _ _ (by simp)]
      exact World.cell?_setCell_same' _ _ _ (by rw [h0]; rfl)
    | 1, hi =>
      simp at hi
      subst hi
      rw [World.cell?_setCell_other _ _ _ _ (by simp)]
      exact World.cell?_setCell_same' _ _ _ (by rw [World.cell?_setCell_other _ _ _ _ (by simp), h1]; rfl)
    | 2, hi =>
      simp at hi
      subst hi
      exact World.cell?_setCell_same' _ _ _ (by rw [World.cell?_setCell_other _ _ _ _ (by simp), World.cell?_setCell_other _ _ _ _ (by simp), h2]; rfl)
    | i + 3, hi => simp at hi
  · rw [World.frozen?_setCell, World.frozen?_setCell, World.frozen?_setCell]; exact h.fr o
  · have := h.lt
    simpa [World.setCell] using this
theorem St8.put3 {w W : World} {p ch n c : Nat} {mp md : List Rm} {A : Option Addr} {L : List (Nat × List Value)} {b : Nat} {x y z : Value} (h : St8 w W p ch n mp A c md ((b, [x, y, z]) :: L) []) (hL : ∀ u ∈ L, u.1 ≠ b) (hb : w.heap.size ≤ b) (x' y' z' : Value) :
    St8 w (((W.setCell ⟨b, 0, none⟩ x').setCell ⟨b, 1, none⟩ y').setCell ⟨b, 2, none⟩ z') p ch n mp A c md ((b, [x', y', z']) :: L) [] := by
  obtain ⟨S, hp, hX, hB⟩ := h.out
  obtain ⟨hc, hS⟩ := hX _ (List.mem_cons_self ..)
  obtain ⟨hc', t⟩ := put_cs3 hc x' y' z'
  refine ⟨⟨S, hp.turn (t.mono fun k _ e => e ▸ hS), fun u hu => ?_, fun y hy => absurd hy (by simp)⟩, h.B.trans (t.below h.z fun k _ e => e ▸ hb)⟩
  rcases List.mem_cons.1 hu with rfl | hu
  · exact ⟨hc', hS⟩
  · obtain ⟨h1, h2⟩ := hX u (List.mem_cons_of_mem _ hu)
    exact ⟨h1.tn t (hL u hu), h2⟩
theorem has_yes (room : Int) (i : Nat) (A : Option Addr) (n c : Nat) (w : World) (h : i < n) : Calls Try.prog 11 #[docV room A n c, .int .i64 (i : Int)] w fun e w' => e = .returned (.bool true) ∧ Below w.heap.size w w' :=
  (has_any room i A n c w).mono fun _ _ ⟨h1, h2⟩ => ⟨by rw [h1]; simp; exact h, h2⟩
theorem has_no (room i : Int) (A : Option Addr) (n c : Nat) (w : World) (h : i < 0 ∨ (n : Int) ≤ i) : Calls Try.prog 11 #[docV room A n c, .int .i64 i] w fun e w' => e = .returned (.bool false) ∧ Below w.heap.size w w' :=
  (has_any room i A n c w).mono fun _ _ ⟨h1, h2⟩ => ⟨by rw [h1]; simp; omega, h2⟩
theorem same_nil (w : World) : Calls Try.prog 12 #[.agg #[.int .i64 0, .int .i64 0, .slice none 0 0], .agg #[.int .i64 0, .int .i64 0, .slice none 0 0]] w fun e w' => e = .returned (.bool true) ∧ Below w.heap.size w w' :=
  sameM_refl 0 0 none none 0 0 0 0 [] w (bs_nil _ _) (bs_nil _ _) (Nat.zero_le _) (Nat.zero_le _)
theorem below_drew (B : Nat) (w : World) : Below B w w.drew := ⟨rfl, rfl, rfl, Nat.le_refl _, fun _ _ => rfl⟩
set_option maxRecDepth 100000 in
set_option maxHeartbeats 800000 in
theorem pplays_bad (room : Int) (hr : room < 0 ∨ 4096 < room) (A : Option Addr) (cap m : Nat) (w : World) :
    Calls Try.prog 3 #[.int .i64 room, .slice A m cap] w fun e w' => e = .returned (.bool true) ∧ Below w.heap.size w w' := by
  have HN := Lib.hid (new_bad room hr w)
  by_cases h0 : room < 0
  · go_enter Try.func3, Try.ntmps3
    go_wp2_with fail
    refine HN.out.mono ?_
    rintro e w' ⟨rfl, rfl⟩
    go_wp2_with fail
    refine (pawake_any _).mono ?_
    rintro e w2 ⟨rfl, b2⟩
    go_wp2_with fail
    go_ret
    exact ⟨rfl, b2⟩
  · have h1 : 4096 < room := by omega
    go_enter Try.func3, Try.ntmps3
    go_wp2_with fail
    refine HN.out.mono ?_
    rintro e w' ⟨rfl, rfl⟩
    go_wp2_with fail
    refine (pawake_any _).mono ?_
    rintro e w2 ⟨rfl, b2⟩
    go_wp2_with fail
    go_ret
    exact ⟨rfl, b2⟩
set_option maxRecDepth 100000 in
set_option maxHeartbeats 12800000 in
theorem pplays_any (n : Nat) (hn : n ≤ 4096) (A : Option Addr) (cap : Nat) (os : List Op8) (w : World) (ho : Os8 w w.heap.size A cap os) :
    Calls Try.prog 3 #[.int .i64 (n : Int), .slice A os.length cap] w fun e w' => e = .returned (.bool true) ∧ Below w.heap.size w w' := by
  have HO := Lib.hid ho
  have hle := ho.le
  have hmx := ho.max
  unfold maxLen at hmx
  clear ho
  have h0 : ¬ (n : Int) < 0 := by omega
  have h1 : ¬ (4096 : Int) < (n : Int) := by omega
  have HN := Lib.hid (newPD n hn w)
  go_enter Try.func3, Try.ntmps3
  go_wp2_with fail
  refine HN.out.mono ?_
  rintro e w1 ⟨rfl, P1, b1⟩
  go_wp2_with fail
  refine (pawake_any _).mono ?_
  rintro e w2 ⟨rfl, b2⟩
  have X1 : St8 w w1 (w.heap.size + 1) w.heap.size n [] none 0 [] [] [] := ⟨⟨_, P1, fun x hx => absurd hx (by simp), fun y hy => absurd hy (by simp)⟩, b1⟩
  have X2 := X1.new b2
  have hmb := X2.z
  have HX3 := Lib.hid (X2.box #[.int .i64 (n : Int), .slice none 0 0] 30)
  clear P1 b1 b2 X1 X2 HN
  go_wp2_with fail
  generalize w2.alloc (.cells #[.int .i64 (n : Int), .slice none 0 0] 30) = W0 at *
  generalize w2.heap.size = mb at *
  go_loopw [53] (fun s wr => ∃ (k : Nat) (Ad : Option Addr) (cd : Nat) (ms : List Rm), k ≤ os.length ∧ s = .int .i64 (k : Int) ∧ St8 w wr (w.heap.size + 1) w.heap.size n ms Ad cd ms [(mb, [.int .i64 (n : Int), .slice Ad ms.length cd])] [] ∧ ∀ x ∈ ms, x.b.length ≤ 3000) (fun s _ => os.length - (intOf s).toNat)
  case atStart => exact ⟨0, none, 0, [], by omega, rfl, HX3.out, fun x hx => absurd hx (by simp)⟩
  case round =>
    clear HX3
    obtain ⟨k, Ad, cd, ms, hk, rfl, X, hS⟩ := hrel
    have zr := X.z
    have hB := X.B
    by_cases hlt : k < os.length
    · have hx : os[k]? = some os[k] := List.getElem?_eq_getElem hlt
      obtain ⟨ad, hA, hadb, d0, d1, d2, A', c', d3, hbs, d4⟩ := HO.out.get hx
      have hkp : ∀ p : Addr, p.block < w.heap.size → wr.cell? p = w.cell? p := fun p hp => hB.cell hp
      have c0 := (hkp _ (by rw [block_of_add]; exact hadb)).trans d0
      have c1 := (hkp _ (by show (ad.add (k * 5)).block < _; rw [block_of_add]; exact hadb)).trans d1
      have c2 := (hkp _ (by show (ad.add (k * 5)).block < _; rw [block_of_add]; exact hadb)).trans d2
      have c3 := (hkp _ (by show (ad.add (k * 5)).block < _; rw [block_of_add]; exact hadb)).trans d3
      have c4 := (hkp _ (by show (ad.add (k * 5)).block < _; rw [block_of_add]; exact hadb)).trans d4
      clear hkp d0 d1 d2 d3 d4
      subst hA
      have hrm := X.inRoom
      have hdl := X.le
      have M := X.bx (b := mb) (cs := [.int .i64 (n : Int), .slice Ad ms.length cd]) (by simp)
      have m0 : wr.cell? ⟨mb, 0, none⟩ = some (.int .i64 (n : Int)) := M.at_ 0 _ rfl
      have m1 : wr.cell? ⟨mb, 1, none⟩ = some (.slice Ad ms.length cd) := M.at_ 1 _ rfl
      have mL := M.lt
      have hadr : ad.block < wr.heap.size := by omega
      generalize os[k] = o at *
      obtain ⟨kd, ⟨xf, xt, xb⟩, oi⟩ := o
      simp only at c0 c1 c2 c3 c4 hbs
      have HX := Lib.hid X
      have HS := Lib.hid hS
      have HBS := Lib.hid hbs
      clear hx X hS hbs M HO
      by_cases h80 : (k : Int) ≥ 80
      · clear hdl
        go_wp2
        go_ret
        exact ⟨rfl, by go_grown⟩
      · by_cases hbig : (xb.length : Int) > 3000
        · clear hdl
          go_wp2
          go_ret
          exact ⟨rfl, by go_grown⟩
        · have hb3 : xb.length ≤ 3000 := by omega
          have hdl1 := hdl.1
          have hdl2 := hdl.2
          unfold maxLen at hdl2
          clear hdl hB
          by_cases k0 : kd = 0
          · subst k0
            have HX1 := Lib.hid (HX.out.box #[.int .i64 0, .int .i64 xf, .int .i64 xt, .slice A' xb.length c', .int .i64 oi] 35)
            by_cases hfull : n ≤ ms.length
            · have hr0 : n ≤ ms.length := hfull
              as_aux_lemma =>
                have hmbo := mL
                go_wp2_with fail
                generalize wr.alloc (.cells #[.int .i64 0, .int .i64 xf, .int .i64 xt, .slice A' xb.length c', .int .i64 oi] 35) = W1 at *
                generalize wr.heap.size = bo at *
                clear m0 m1 mL c0 c1 c2 c3 c4 hadr
                have mB := HX1.out.bx (b := mb) (cs := [.int .i64 (n : Int), .slice Ad ms.length cd]) (by simp)
                have m0 : World.cell? _ ⟨mb, 0, none⟩ = some (.int .i64 (n : Int)) := mB.at_ 0 _ rfl
                have m1 : World.cell? _ ⟨mb, 1, none⟩ = some (.slice Ad ms.length cd) := mB.at_ 1 _ rfl
                have mL := mB.lt
                clear mB
                have oB := HX1.out.bx (b := bo) (cs := [.int .i64 0, .int .i64 xf, .int .i64 xt, .slice A' xb.length c', .int .i64 oi]) (by simp)
                have o0 : World.cell? _ ⟨bo, 0, none⟩ = some (.int .i64 0) := oB.at_ 0 _ rfl
                have o1 : World.cell? _ ⟨bo, 1, none⟩ = some (.int .i64 xf) := oB.at_ 1 _ rfl
                have o2 : World.cell? _ ⟨bo, 2, none⟩ = some (.int .i64 xt) := oB.at_ 2 _ rfl
                have o3 : World.cell? _ ⟨bo, 3, none⟩ = some (.slice A' xb.length c') := oB.at_ 3 _ rfl
                have o4 : World.cell? _ ⟨bo, 4, none⟩ = some (.int .i64 oi) := oB.at_ 4 _ rfl
                have oL := oB.lt
                clear oB
                refine (dsend_full (n : Int) xf xt Ad A' ms.length cd xb.length c' (by omega) (by omega) W1).mono ?_
                rintro e W2 ⟨rfl, b2⟩
                have X2 := HX1.out.new b2
                have HS2 := HS
                clear b2
                have HX3 := Lib.hid (X2.box #[.int .i64 (n : Int), .slice Ad ms.length cd] 30)
                clear mL m0 m1
                clear oL o0 o1 o2 o3 o4
                have mB := X2.bx (b := mb) (cs := [.int .i64 (n : Int), .slice Ad ms.length cd]) (by simp)
                have m0 : World.cell? _ ⟨mb, 0, none⟩ = some (.int .i64 (n : Int)) := mB.at_ 0 _ rfl
                have m1 : World.cell? _ ⟨mb, 1, none⟩ = some (.slice Ad ms.length cd) := mB.at_ 1 _ rfl
                have mL := mB.lt
                clear mB
                have oB := X2.bx (b := bo) (cs := [.int .i64 0, .int .i64 xf, .int .i64 xt, .slice A' xb.length c', .int .i64 oi]) (by simp)
                have o0 : World.cell? _ ⟨bo, 0, none⟩ = some (.int .i64 0) := oB.at_ 0 _ rfl
                have o1 : World.cell? _ ⟨bo, 1, none⟩ = some (.int .i64 xf) := oB.at_ 1 _ rfl
                have o2 : World.cell? _ ⟨bo, 2, none⟩ = some (.int .i64 xt) := oB.at_ 2 _ rfl
                have o3 : World.cell? _ ⟨bo, 3, none⟩ = some (.slice A' xb.length c') := oB.at_ 3 _ rfl
                have o4 : World.cell? _ ⟨bo, 4, none⟩ = some (.int .i64 oi) := oB.at_ 4 _ rfl
                have oL := oB.lt
                clear oB
                have HX2 := Lib.hid X2
                clear X2
                go_wp2_with (at_builtin; go_loud (refine wpList_app _ rfl (.tmp 78) (.tmp 81) rfl (W2.heap.size + 1) (.slice (some ⟨W2.heap.size + 1, 0, none⟩) 0 0) [] rfl (lit_ob (W2.alloc (.cells #[.int .i64 (n : Int), .slice Ad ms.length cd] 30)) (W2.heap.size + 1) (W2.heap.size + 1) (by simp) (Nat.le_refl _) _ 0 [] rfl rfl (by decide)) A' xb.length c' xb rfl rfl w.heap.size ((HBS.out.below HX3.out.B).alloc HX3.out.z _) xb.length (by simp) (by simp; omega) (by simp) ?_; intro A3 c3' w3 ob3 gr3 at3; rw [List.nil_append] at ob3; have b3 : Below (W2.alloc (.cells #[.int .i64 (n : Int), .slice Ad ms.length cd] 30)).heap.size (W2.alloc (.cells #[.int .i64 (n : Int), .slice Ad ms.length cd] 30)) w3 := grown_below ((Below.refl _ _).alloc (Nat.le_refl _) _) gr3 (by simp) (by simp [Value.ownBlock]); have HX4 := Lib.hid (HX3.out.bytes b3 (by simpa using ob3)); clear ob3 b3 gr3 at3 mL oL; clear m0 m1; clear o0 o1 o2 o3 o4; have mB := HX4.out.bx (b := mb) (cs := [.int .i64 (n : Int), .slice Ad ms.length cd]) (by simp); have m0 : World.cell? _ ⟨mb, 0, none⟩ = some (.int .i64 (n : Int)) := mB.at_ 0 _ rfl; have m1 : World.cell? _ ⟨mb, 1, none⟩ = some (.slice Ad ms.length cd) := mB.at_ 1 _ rfl; have mL := mB.lt; clear mB; have oB := HX4.out.bx (b := bo) (cs := [.int .i64 0, .int .i64 xf, .int .i64 xt, .slice A' xb.length c', .int .i64 oi]) (by simp); have o0 : World.cell? _ ⟨bo, 0, none⟩ = some (.int .i64 0) := oB.at_ 0 _ rfl; have o1 : World.cell? _ ⟨bo, 1, none⟩ = some (.int .i64 xf) := oB.at_ 1 _ rfl; have o2 : World.cell? _ ⟨bo, 2, none⟩ = some (.int .i64 xt) := oB.at_ 2 _ rfl; have o3 : World.cell? _ ⟨bo, 3, none⟩ = some (.slice A' xb.length c') := oB.at_ 3 _ rfl; have o4 : World.cell? _ ⟨bo, 4, none⟩ = some (.int .i64 oi) := oB.at_ 4 _ rfl; have oL := oB.lt; clear oB; have bB := HX4.out.bx (b := W2.heap.size) (cs := [.int .i64 (n : Int), .slice Ad ms.length cd]) (by simp); have b0 : World.cell? _ ⟨W2.heap.size, 0, none⟩ = some (.int .i64 (n : Int)) := bB.at_ 0 _ rfl; have b1 : World.cell? _ ⟨W2.heap.size, 1, none⟩ = some (.slice Ad ms.length cd) := bB.at_ 1 _ rfl; have bL := bB.lt; clear bB))
                generalize W2.heap.size = nb at *
                refine (HX4.out.sendFull (by omega) xf xt A3 xb.length c3' (by omega)).mono ?_
                rintro e w4 ⟨rfl, X5⟩
                clear mL m0 m1
                clear oL o0 o1 o2 o3 o4
                clear bL b0 b1
                have HX5 := Lib.hid X5
                have O5 := X5.ob (v := .slice A3 xb.length c3') (l := xb) (by simp)
                have hcap := O5.bs.1.le
                have hcm := O5.bs.1.max
                unfold maxLen at hcm
                have HO5 := Lib.hid O5
                clear X5 O5
                go_wp2_with fail
                go_loopw [95] (fun s wi => ∃ (j : Nat) (bb : List UInt8), j ≤ xb.length ∧ s = .int .i64 (j : Int) ∧ bb.length = xb.length ∧ Ob wi w.heap.size (.slice A3 xb.length c3') bb ∧ Tn (fun q => (Value.slice A3 xb.length c3').ownBlock = some q) w4 wi) (fun s _ => xb.length - (intOf s).toNat)
                case atStart => exact ⟨0, xb, by omega, rfl, rfl, HO5.out, Tn.refl _ _⟩
                case round =>
                  obtain ⟨j, bb, hj, rfl, hbl, obi, T⟩ := hrel
                  rename World => wi
                  by_cases hlj : j < xb.length
                  · obtain ⟨gb, rfl, hgb1, hgb2⟩ := obi.addr (by omega)
                    obtain ⟨y0, yf, _, _, _⟩ := obi.slot (k := j) (by omega)
                    have hnb := notB_eq bb[j]
                    have hst := obi.stored j (notB bb[j])
                    have HST := Lib.hid hst
                    have HT := Lib.hid T
                    have HBL := Lib.hid hbl
                    generalize bb[j] = cb at *
                    clear hst obi T hbl
                    go_wp2
                    go_roundw
                    case rel => exact ⟨j + 1, bb.set j (notB cb), by omega, by simp, by rw [List.length_set]; exact HBL.out, HST.out, HT.out.then ((Tn.setCell wi gb j _).mono fun k _ e => by rw [e]; rfl)⟩
                    case measure => simp [intOf]; omega
                  · have X6 := HX5.out.flip T
                    clear T obi hbl
                    have mB := X6.bx (b := mb) (cs := [.int .i64 (n : Int), .slice Ad ms.length cd]) (by simp)
                    have m0 : World.cell? _ ⟨mb, 0, none⟩ = some (.int .i64 (n : Int)) := mB.at_ 0 _ rfl
                    have m1 : World.cell? _ ⟨mb, 1, none⟩ = some (.slice Ad ms.length cd) := mB.at_ 1 _ rfl
                    have mL := mB.lt
                    have mf := mB.fr
                    clear mB
                    have bB := X6.bx (b := nb) (cs := [.int .i64 (n : Int), .slice Ad ms.length cd]) (by simp)
                    have b0 : World.cell? _ ⟨nb, 0, none⟩ = some (.int .i64 (n : Int)) := bB.at_ 0 _ rfl
                    have b1 : World.cell? _ ⟨nb, 1, none⟩ = some (.slice Ad ms.length cd) := bB.at_ 1 _ rfl
                    have bL := bB.lt
                    clear bB
                    have hmbz := X6.z
                    have X7 := (X6.sub (L' := [(mb, [.int .i64 (n : Int), .slice Ad ms.length cd])]) (LB' := []) (by intro z hz; simp at hz ⊢; simp [hz]) (by intro y hy; simp at hy)).put (by intro z hz; simp at hz) hmb (.int .i64 (n : Int)) (.slice Ad ms.length cd)
                    have HX7 := Lib.hid X7
                    clear X6 X7
                    go_wp2_with fail
                    have X9 := HX7.out
                    refine (X9.same (n : Int) HS2.out hn).mono ?_
                    rintro e w8 ⟨rfl, X8⟩
                    have HX8 := Lib.hid X8
                    clear X8 X9
                    go_wp2_with fail
                    go_roundw
                    case rel => exact ⟨k + 1, Ad, cd, ms, by omega, by simp, HX8.out.sub (by intro z hz; simp at hz ⊢; simp [hz]) (by intro y hy; simp at hy), HS2.out⟩
                    case measure => simp [intOf]; omega
            · as_aux_lemma =>
                have hr0 : ms.length < n := by omega
                have hmbo := mL
                go_wp2_with fail
                generalize wr.alloc (.cells #[.int .i64 0, .int .i64 xf, .int .i64 xt, .slice A' xb.length c', .int .i64 oi] 35) = W1 at *
                generalize wr.heap.size = bo at *
                clear m0 m1 mL c0 c1 c2 c3 c4 hadr
                have mB := HX1.out.bx (b := mb) (cs := [.int .i64 (n : Int), .slice Ad ms.length cd]) (by simp)
                have m0 : World.cell? _ ⟨mb, 0, none⟩ = some (.int .i64 (n : Int)) := mB.at_ 0 _ rfl
                have m1 : World.cell? _ ⟨mb, 1, none⟩ = some (.slice Ad ms.length cd) := mB.at_ 1 _ rfl
                have mL := mB.lt
                clear mB
                have oB := HX1.out.bx (b := bo) (cs := [.int .i64 0, .int .i64 xf, .int .i64 xt, .slice A' xb.length c', .int .i64 oi]) (by simp)
                have o0 : World.cell? _ ⟨bo, 0, none⟩ = some (.int .i64 0) := oB.at_ 0 _ rfl
                have o1 : World.cell? _ ⟨bo, 1, none⟩ = some (.int .i64 xf) := oB.at_ 1 _ rfl
                have o2 : World.cell? _ ⟨bo, 2, none⟩ = some (.int .i64 xt) := oB.at_ 2 _ rfl
                have o3 : World.cell? _ ⟨bo, 3, none⟩ = some (.slice A' xb.length c') := oB.at_ 3 _ rfl
                have o4 : World.cell? _ ⟨bo, 4, none⟩ = some (.int .i64 oi) := oB.at_ 4 _ rfl
                have oL := oB.lt
                clear oB
                refine (HX1.out.dsend ⟨xf, xt, xb⟩ ((HBS.out.below HX1.out.B).more HX1.out.z) (by show xb.length ≤ 1048576; omega) (by omega : (ms.length : Int) < (n : Int)) (by omega)).mono ?_
                rintro e W2 ⟨A2, c2, rfl, X2⟩
                have hs2 : ∀ x ∈ ms ++ [(⟨xf, xt, xb⟩ : Rm)], x.b.length ≤ 3000 := by
                  intro x hx
                  rcases List.mem_append.1 hx with hx | hx
                  · exact HS.out x hx
                  · simp at hx; subst hx; exact hb3
                generalize hms2 : ms ++ [(⟨xf, xt, xb⟩ : Rm)] = ms2 at *
                have HMS := Lib.hid hms2
                have HS2 := Lib.hid hs2
                clear hms2 hs2
                have HX3 := Lib.hid (X2.box #[.int .i64 (n : Int), .slice A2 ms2.length c2] 30)
                clear mL m0 m1
                clear oL o0 o1 o2 o3 o4
                have mB := X2.bx (b := mb) (cs := [.int .i64 (n : Int), .slice Ad ms.length cd]) (by simp)
                have m0 : World.cell? _ ⟨mb, 0, none⟩ = some (.int .i64 (n : Int)) := mB.at_ 0 _ rfl
                have m1 : World.cell? _ ⟨mb, 1, none⟩ = some (.slice Ad ms.length cd) := mB.at_ 1 _ rfl
                have mL := mB.lt
                clear mB
                have oB := X2.bx (b := bo) (cs := [.int .i64 0, .int .i64 xf, .int .i64 xt, .slice A' xb.length c', .int .i64 oi]) (by simp)
                have o0 : World.cell? _ ⟨bo, 0, none⟩ = some (.int .i64 0) := oB.at_ 0 _ rfl
                have o1 : World.cell? _ ⟨bo, 1, none⟩ = some (.int .i64 xf) := oB.at_ 1 _ rfl
                have o2 : World.cell? _ ⟨bo, 2, none⟩ = some (.int .i64 xt) := oB.at_ 2 _ rfl
                have o3 : World.cell? _ ⟨bo, 3, none⟩ = some (.slice A' xb.length c') := oB.at_ 3 _ rfl
                have o4 : World.cell? _ ⟨bo, 4, none⟩ = some (.int .i64 oi) := oB.at_ 4 _ rfl
                have oL := oB.lt
                clear oB
                have HX2 := Lib.hid X2
                clear X2
                go_wp2_with (at_builtin; go_loud (refine wpList_app _ rfl (.tmp 78) (.tmp 81) rfl (W2.heap.size + 1) (.slice (some ⟨W2.heap.size + 1, 0, none⟩) 0 0) [] rfl (lit_ob (W2.alloc (.cells #[.int .i64 (n : Int), .slice A2 ms2.length c2] 30)) (W2.heap.size + 1) (W2.heap.size + 1) (by simp) (Nat.le_refl _) _ 0 [] rfl rfl (by decide)) A' xb.length c' xb rfl rfl w.heap.size ((HBS.out.below HX3.out.B).alloc HX3.out.z _) xb.length (by simp) (by simp; omega) (by simp) ?_; intro A3 c3' w3 ob3 gr3 at3; rw [List.nil_append] at ob3; have b3 : Below (W2.alloc (.cells #[.int .i64 (n : Int), .slice A2 ms2.length c2] 30)).heap.size (W2.alloc (.cells #[.int .i64 (n : Int), .slice A2 ms2.length c2] 30)) w3 := grown_below ((Below.refl _ _).alloc (Nat.le_refl _) _) gr3 (by simp) (by simp [Value.ownBlock]); have HX4 := Lib.hid (HX3.out.bytes b3 (by simpa using ob3)); clear ob3 b3 gr3 at3 mL oL; clear m0 m1; clear o0 o1 o2 o3 o4; have mB := HX4.out.bx (b := mb) (cs := [.int .i64 (n : Int), .slice Ad ms.length cd]) (by simp); have m0 : World.cell? _ ⟨mb, 0, none⟩ = some (.int .i64 (n : Int)) := mB.at_ 0 _ rfl; have m1 : World.cell? _ ⟨mb, 1, none⟩ = some (.slice Ad ms.length cd) := mB.at_ 1 _ rfl; have mL := mB.lt; clear mB; have oB := HX4.out.bx (b := bo) (cs := [.int .i64 0, .int .i64 xf, .int .i64 xt, .slice A' xb.length c', .int .i64 oi]) (by simp); have o0 : World.cell? _ ⟨bo, 0, none⟩ = some (.int .i64 0) := oB.at_ 0 _ rfl; have o1 : World.cell? _ ⟨bo, 1, none⟩ = some (.int .i64 xf) := oB.at_ 1 _ rfl; have o2 : World.cell? _ ⟨bo, 2, none⟩ = some (.int .i64 xt) := oB.at_ 2 _ rfl; have o3 : World.cell? _ ⟨bo, 3, none⟩ = some (.slice A' xb.length c') := oB.at_ 3 _ rfl; have o4 : World.cell? _ ⟨bo, 4, none⟩ = some (.int .i64 oi) := oB.at_ 4 _ rfl; have oL := oB.lt; clear oB; have bB := HX4.out.bx (b := W2.heap.size) (cs := [.int .i64 (n : Int), .slice A2 ms2.length c2]) (by simp); have b0 : World.cell? _ ⟨W2.heap.size, 0, none⟩ = some (.int .i64 (n : Int)) := bB.at_ 0 _ rfl; have b1 : World.cell? _ ⟨W2.heap.size, 1, none⟩ = some (.slice A2 ms2.length c2) := bB.at_ 1 _ rfl; have bL := bB.lt; clear bB))
                generalize W2.heap.size = nb at *
                refine (HX4.out.send ⟨xf, xt, xb⟩ (by show xb.length ≤ 1048576; omega) (by omega) hn).mono ?_
                rintro e w4 ⟨rfl, X5⟩
                rw [HMS.out] at X5
                clear mL m0 m1
                clear oL o0 o1 o2 o3 o4
                clear bL b0 b1
                have HX5 := Lib.hid X5
                have O5 := X5.ob (v := .slice A3 xb.length c3') (l := xb) (by simp)
                have hcap := O5.bs.1.le
                have hcm := O5.bs.1.max
                unfold maxLen at hcm
                have HO5 := Lib.hid O5
                clear X5 O5
                go_wp2_with fail
                go_loopw [95] (fun s wi => ∃ (j : Nat) (bb : List UInt8), j ≤ xb.length ∧ s = .int .i64 (j : Int) ∧ bb.length = xb.length ∧ Ob wi w.heap.size (.slice A3 xb.length c3') bb ∧ Tn (fun q => (Value.slice A3 xb.length c3').ownBlock = some q) w4 wi) (fun s _ => xb.length - (intOf s).toNat)
                case atStart => exact ⟨0, xb, by omega, rfl, rfl, HO5.out, Tn.refl _ _⟩
                case round =>
                  obtain ⟨j, bb, hj, rfl, hbl, obi, T⟩ := hrel
                  rename World => wi
                  by_cases hlj : j < xb.length
                  · obtain ⟨gb, rfl, hgb1, hgb2⟩ := obi.addr (by omega)
                    obtain ⟨y0, yf, _, _, _⟩ := obi.slot (k := j) (by omega)
                    have hnb := notB_eq bb[j]
                    have hst := obi.stored j (notB bb[j])
                    have HST := Lib.hid hst
                    have HT := Lib.hid T
                    have HBL := Lib.hid hbl
                    generalize bb[j] = cb at *
                    clear hst obi T hbl
                    go_wp2
                    go_roundw
                    case rel => exact ⟨j + 1, bb.set j (notB cb), by omega, by simp, by rw [List.length_set]; exact HBL.out, HST.out, HT.out.then ((Tn.setCell wi gb j _).mono fun k _ e => by rw [e]; rfl)⟩
                    case measure => simp [intOf]; omega
                  · have X6 := HX5.out.flip T
                    clear T obi hbl
                    have mB := X6.bx (b := mb) (cs := [.int .i64 (n : Int), .slice Ad ms.length cd]) (by simp)
                    have m0 : World.cell? _ ⟨mb, 0, none⟩ = some (.int .i64 (n : Int)) := mB.at_ 0 _ rfl
                    have m1 : World.cell? _ ⟨mb, 1, none⟩ = some (.slice Ad ms.length cd) := mB.at_ 1 _ rfl
                    have mL := mB.lt
                    have mf := mB.fr
                    clear mB
                    have bB := X6.bx (b := nb) (cs := [.int .i64 (n : Int), .slice A2 ms2.length c2]) (by simp)
                    have b0 : World.cell? _ ⟨nb, 0, none⟩ = some (.int .i64 (n : Int)) := bB.at_ 0 _ rfl
                    have b1 : World.cell? _ ⟨nb, 1, none⟩ = some (.slice A2 ms2.length c2) := bB.at_ 1 _ rfl
                    have bL := bB.lt
                    clear bB
                    have hmbz := X6.z
                    have X7 := (X6.sub (L' := [(mb, [.int .i64 (n : Int), .slice Ad ms.length cd])]) (LB' := []) (by intro z hz; simp at hz ⊢; simp [hz]) (by intro y hy; simp at hy)).put (by intro z hz; simp at hz) hmb (.int .i64 (n : Int)) (.slice A2 ms2.length c2)
                    have HX7 := Lib.hid X7
                    clear X6 X7
                    go_wp2_with fail
                    have X9 := HX7.out
                    refine (X9.same (n : Int) HS2.out hn).mono ?_
                    rintro e w8 ⟨rfl, X8⟩
                    have HX8 := Lib.hid X8
                    clear X8 X9
                    go_wp2_with fail
                    go_roundw
                    case rel => exact ⟨k + 1, A2, c2, ms2, by omega, by simp, HX8.out.sub (by intro z hz; simp at hz ⊢; simp [hz]) (by intro y hy; simp at hy), HS2.out⟩
                    case measure => simp [intOf]; omega
          · have e0 : (kd == (0 : Int)) = false := by simpa using k0
            by_cases k1 : kd = 1
            · subst k1
              have HX1 := Lib.hid (HX.out.box #[.int .i64 1, .int .i64 xf, .int .i64 xt, .slice A' xb.length c', .int .i64 oi] 35)
              by_cases hi : oi < 0 ∨ (ms.length : Int) ≤ oi
              · as_aux_lemma =>
                  have hmbo := mL
                  go_wp2_with fail
                  generalize wr.alloc (.cells #[.int .i64 1, .int .i64 xf, .int .i64 xt, .slice A' xb.length c', .int .i64 oi] 35) = W1 at *
                  generalize wr.heap.size = bo at *
                  clear m0 m1 mL c0 c1 c2 c3 c4 hadr
                  have mB := HX1.out.bx (b := mb) (cs := [.int .i64 (n : Int), .slice Ad ms.length cd]) (by simp)
                  have m0 : World.cell? _ ⟨mb, 0, none⟩ = some (.int .i64 (n : Int)) := mB.at_ 0 _ rfl
                  have m1 : World.cell? _ ⟨mb, 1, none⟩ = some (.slice Ad ms.length cd) := mB.at_ 1 _ rfl
                  have mL := mB.lt
                  clear mB
                  have oB := HX1.out.bx (b := bo) (cs := [.int .i64 1, .int .i64 xf, .int .i64 xt, .slice A' xb.length c', .int .i64 oi]) (by simp)
                  have o0 : World.cell? _ ⟨bo, 0, none⟩ = some (.int .i64 1) := oB.at_ 0 _ rfl
                  have o1 : World.cell? _ ⟨bo, 1, none⟩ = some (.int .i64 xf) := oB.at_ 1 _ rfl
                  have o2 : World.cell? _ ⟨bo, 2, none⟩ = some (.int .i64 xt) := oB.at_ 2 _ rfl
                  have o3 : World.cell? _ ⟨bo, 3, none⟩ = some (.slice A' xb.length c') := oB.at_ 3 _ rfl
                  have o4 : World.cell? _ ⟨bo, 4, none⟩ = some (.int .i64 oi) := oB.at_ 4 _ rfl
                  have oL := oB.lt
                  clear oB
                  refine (HX1.out.miss hi).1.mono ?_
                  rintro e W2 ⟨rfl, X2⟩
                  clear mL m0 m1
                  clear oL o0 o1 o2 o3 o4
                  have mB := X2.bx (b := mb) (cs := [.int .i64 (n : Int), .slice Ad ms.length cd]) (by simp)
                  have m0 : World.cell? _ ⟨mb, 0, none⟩ = some (.int .i64 (n : Int)) := mB.at_ 0 _ rfl
                  have m1 : World.cell? _ ⟨mb, 1, none⟩ = some (.slice Ad ms.length cd) := mB.at_ 1 _ rfl
                  have mL := mB.lt
                  clear mB
                  have oB := X2.bx (b := bo) (cs := [.int .i64 1, .int .i64 xf, .int .i64 xt, .slice A' xb.length c', .int .i64 oi]) (by simp)
                  have o0 : World.cell? _ ⟨bo, 0, none⟩ = some (.int .i64 1) := oB.at_ 0 _ rfl
                  have o1 : World.cell? _ ⟨bo, 1, none⟩ = some (.int .i64 xf) := oB.at_ 1 _ rfl
                  have o2 : World.cell? _ ⟨bo, 2, none⟩ = some (.int .i64 xt) := oB.at_ 2 _ rfl
                  have o3 : World.cell? _ ⟨bo, 3, none⟩ = some (.slice A' xb.length c') := oB.at_ 3 _ rfl
                  have o4 : World.cell? _ ⟨bo, 4, none⟩ = some (.int .i64 oi) := oB.at_ 4 _ rfl
                  have oL := oB.lt
                  clear oB
                  have hnb := X2.z
                  have HX3 := Lib.hid (X2.box #[.int .i64 0, .int .i64 0, .slice none 0 0] 39)
                  have hmn := mL
                  have hon := oL
                  clear X2
                  go_wp2_with fail
                  generalize W2.alloc (.cells #[.int .i64 0, .int .i64 0, .slice none 0 0] 39) = W3 at *
                  generalize W2.heap.size = nb at *
                  have hmn' : mb ≠ nb := by omega
                  have hon' : bo ≠ nb := by omega
                  clear mL m0 m1
                  clear oL o0 o1 o2 o3 o4
                  have mB := HX3.out.bx (b := mb) (cs := [.int .i64 (n : Int), .slice Ad ms.length cd]) (by simp)
                  have m0 : World.cell? _ ⟨mb, 0, none⟩ = some (.int .i64 (n : Int)) := mB.at_ 0 _ rfl
                  have m1 : World.cell? _ ⟨mb, 1, none⟩ = some (.slice Ad ms.length cd) := mB.at_ 1 _ rfl
                  have mL := mB.lt
                  clear mB
                  have oB := HX3.out.bx (b := bo) (cs := [.int .i64 1, .int .i64 xf, .int .i64 xt, .slice A' xb.length c', .int .i64 oi]) (by simp)
                  have o0 : World.cell? _ ⟨bo, 0, none⟩ = some (.int .i64 1) := oB.at_ 0 _ rfl
                  have o1 : World.cell? _ ⟨bo, 1, none⟩ = some (.int .i64 xf) := oB.at_ 1 _ rfl
                  have o2 : World.cell? _ ⟨bo, 2, none⟩ = some (.int .i64 xt) := oB.at_ 2 _ rfl
                  have o3 : World.cell? _ ⟨bo, 3, none⟩ = some (.slice A' xb.length c') := oB.at_ 3 _ rfl
                  have o4 : World.cell? _ ⟨bo, 4, none⟩ = some (.int .i64 oi) := oB.at_ 4 _ rfl
                  have oL := oB.lt
                  clear oB
                  refine (HX3.out.miss hi).2.1.mono ?_
                  rintro e W4 ⟨rfl, X4⟩
                  clear mL m0 m1
                  clear oL o0 o1 o2 o3 o4
                  have mB := X4.bx (b := mb) (cs := [.int .i64 (n : Int), .slice Ad ms.length cd]) (by simp)
                  have m0 : World.cell? _ ⟨mb, 0, none⟩ = some (.int .i64 (n : Int)) := mB.at_ 0 _ rfl
                  have m1 : World.cell? _ ⟨mb, 1, none⟩ = some (.slice Ad ms.length cd) := mB.at_ 1 _ rfl
                  have mL := mB.lt
                  clear mB
                  have oB := X4.bx (b := bo) (cs := [.int .i64 1, .int .i64 xf, .int .i64 xt, .slice A' xb.length c', .int .i64 oi]) (by simp)
                  have o0 : World.cell? _ ⟨bo, 0, none⟩ = some (.int .i64 1) := oB.at_ 0 _ rfl
                  have o1 : World.cell? _ ⟨bo, 1, none⟩ = some (.int .i64 xf) := oB.at_ 1 _ rfl
                  have o2 : World.cell? _ ⟨bo, 2, none⟩ = some (.int .i64 xt) := oB.at_ 2 _ rfl
                  have o3 : World.cell? _ ⟨bo, 3, none⟩ = some (.slice A' xb.length c') := oB.at_ 3 _ rfl
                  have o4 : World.cell? _ ⟨bo, 4, none⟩ = some (.int .i64 oi) := oB.at_ 4 _ rfl
                  have oL := oB.lt
                  clear oB
                  have qB := X4.bx (b := nb) (cs := [.int .i64 0, .int .i64 0, .slice none 0 0]) (by simp)
                  have q0 : World.cell? _ ⟨nb, 0, none⟩ = some (.int .i64 0) := qB.at_ 0 _ rfl
                  have q1 : World.cell? _ ⟨nb, 1, none⟩ = some (.int .i64 0) := qB.at_ 1 _ rfl
                  have q2 : World.cell? _ ⟨nb, 2, none⟩ = some (.slice none 0 0) := qB.at_ 2 _ rfl
                  have qL := qB.lt
                  have qf := qB.fr
                  clear qB
                  have X5 := (X4.sub (L' := [(nb, [.int .i64 0, .int .i64 0, .slice none 0 0]), (mb, [.int .i64 (n : Int), .slice Ad ms.length cd]), (bo, [.int .i64 1, .int .i64 xf, .int .i64 xt, .slice A' xb.length c', .int .i64 oi])]) (LB' := []) (by intro z hz; simp at hz ⊢; rcases hz with rfl | rfl | rfl <;> simp) (by intro y hy; simp at hy)).put3 (by intro z hz; simp at hz; rcases hz with rfl | rfl <;> simp <;> omega) hnb (.int .i64 0) (.int .i64 0) (.slice none 0 0)
                  have HX5 := Lib.hid X5
                  clear X4 X5
                  go_wp2_with fail
                  generalize ((W4.setCell ⟨nb, 0, none⟩ (.int .i64 0)).setCell ⟨nb, 1, none⟩ (.int .i64 0)).setCell ⟨nb, 2, none⟩ (.slice none 0 0) = W5 at *
                  clear mL m0 m1
                  clear oL o0 o1 o2 o3 o4
                  clear qL q0 q1 q2 qf
                  have mB := HX5.out.bx (b := mb) (cs := [.int .i64 (n : Int), .slice Ad ms.length cd]) (by simp)
                  have m0 : World.cell? _ ⟨mb, 0, none⟩ = some (.int .i64 (n : Int)) := mB.at_ 0 _ rfl
                  have m1 : World.cell? _ ⟨mb, 1, none⟩ = some (.slice Ad ms.length cd) := mB.at_ 1 _ rfl
                  have mL := mB.lt
                  clear mB
                  have oB := HX5.out.bx (b := bo) (cs := [.int .i64 1, .int .i64 xf, .int .i64 xt, .slice A' xb.length c', .int .i64 oi]) (by simp)
                  have o0 : World.cell? _ ⟨bo, 0, none⟩ = some (.int .i64 1) := oB.at_ 0 _ rfl
                  have o1 : World.cell? _ ⟨bo, 1, none⟩ = some (.int .i64 xf) := oB.at_ 1 _ rfl
                  have o2 : World.cell? _ ⟨bo, 2, none⟩ = some (.int .i64 xt) := oB.at_ 2 _ rfl
                  have o3 : World.cell? _ ⟨bo, 3, none⟩ = some (.slice A' xb.length c') := oB.at_ 3 _ rfl
                  have o4 : World.cell? _ ⟨bo, 4, none⟩ = some (.int .i64 oi) := oB.at_ 4 _ rfl
                  have oL := oB.lt
                  clear oB
                  have qB := HX5.out.bx (b := nb) (cs := [.int .i64 0, .int .i64 0, .slice none 0 0]) (by simp)
                  have q0 : World.cell? _ ⟨nb, 0, none⟩ = some (.int .i64 0) := qB.at_ 0 _ rfl
                  have q1 : World.cell? _ ⟨nb, 1, none⟩ = some (.int .i64 0) := qB.at_ 1 _ rfl
                  have q2 : World.cell? _ ⟨nb, 2, none⟩ = some (.slice none 0 0) := qB.at_ 2 _ rfl
                  have qL := qB.lt
                  clear qB
                  refine (has_no (n : Int) oi Ad ms.length cd W5 hi).mono ?_
                  rintro e W6 ⟨rfl, b6⟩
                  have HX6 := Lib.hid (HX5.out.new b6)
                  clear mL m0 m1
                  clear oL o0 o1 o2 o3 o4
                  clear qL q0 q1 q2
                  have mB := HX6.out.bx (b := mb) (cs := [.int .i64 (n : Int), .slice Ad ms.length cd]) (by simp)
                  have m0 : World.cell? _ ⟨mb, 0, none⟩ = some (.int .i64 (n : Int)) := mB.at_ 0 _ rfl
                  have m1 : World.cell? _ ⟨mb, 1, none⟩ = some (.slice Ad ms.length cd) := mB.at_ 1 _ rfl
                  have mL := mB.lt
                  clear mB
                  have oB := HX6.out.bx (b := bo) (cs := [.int .i64 1, .int .i64 xf, .int .i64 xt, .slice A' xb.length c', .int .i64 oi]) (by simp)
                  have o0 : World.cell? _ ⟨bo, 0, none⟩ = some (.int .i64 1) := oB.at_ 0 _ rfl
                  have o1 : World.cell? _ ⟨bo, 1, none⟩ = some (.int .i64 xf) := oB.at_ 1 _ rfl
                  have o2 : World.cell? _ ⟨bo, 2, none⟩ = some (.int .i64 xt) := oB.at_ 2 _ rfl
                  have o3 : World.cell? _ ⟨bo, 3, none⟩ = some (.slice A' xb.length c') := oB.at_ 3 _ rfl
                  have o4 : World.cell? _ ⟨bo, 4, none⟩ = some (.int .i64 oi) := oB.at_ 4 _ rfl
                  have oL := oB.lt
                  clear oB
                  have qB := HX6.out.bx (b := nb) (cs := [.int .i64 0, .int .i64 0, .slice none 0 0]) (by simp)
                  have q0 : World.cell? _ ⟨nb, 0, none⟩ = some (.int .i64 0) := qB.at_ 0 _ rfl
                  have q1 : World.cell? _ ⟨nb, 1, none⟩ = some (.int .i64 0) := qB.at_ 1 _ rfl
                  have q2 : World.cell? _ ⟨nb, 2, none⟩ = some (.slice none 0 0) := qB.at_ 2 _ rfl
                  have qL := qB.lt
                  clear qB
                  clear b6
                  go_wp2_with fail
                  refine (fromM_any 0 0 none 0 0 _).mono ?_
                  rintro e W7 ⟨rfl, b7⟩
                  clear mL m0 m1
                  clear oL o0 o1 o2 o3 o4
                  clear qL q0 q1 q2
                  have X7 := HX6.out.new b7
                  have mB := X7.bx (b := mb) (cs := [.int .i64 (n : Int), .slice Ad ms.length cd]) (by simp)
                  have m0 : World.cell? _ ⟨mb, 0, none⟩ = some (.int .i64 (n : Int)) := mB.at_ 0 _ rfl
                  have m1 : World.cell? _ ⟨mb, 1, none⟩ = some (.slice Ad ms.length cd) := mB.at_ 1 _ rfl
                  have mL := mB.lt
                  clear mB
                  have HX7 := Lib.hid X7
                  clear X7 b7
                  go_wp2_with fail
                  refine (same_nil _).mono ?_
                  rintro e W8 ⟨rfl, b8⟩
                  clear mL m0 m1
                  have HX8 := Lib.hid (HX7.out.new b8)
                  have mB := HX8.out.bx (b := mb) (cs := [.int .i64 (n : Int), .slice Ad ms.length cd]) (by simp)
                  have m0 : World.cell? _ ⟨mb, 0, none⟩ = some (.int .i64 (n : Int)) := mB.at_ 0 _ rfl
                  have m1 : World.cell? _ ⟨mb, 1, none⟩ = some (.slice Ad ms.length cd) := mB.at_ 1 _ rfl
                  have mL := mB.lt
                  clear mB
                  clear b8
                  go_wp2_with fail
                  have X9 := HX8.out
                  refine (X9.same (n : Int) HS.out hn).mono ?_
                  rintro e w8 ⟨rfl, X8⟩
                  have HX8 := Lib.hid X8
                  clear X8 X9
                  go_wp2_with fail
                  go_roundw
                  case rel => exact ⟨k + 1, Ad, cd, ms, by omega, by simp, HX8.out.sub (by intro z hz; simp at hz ⊢; simp [hz]) (by intro y hy; simp at hy), HS.out⟩
                  case measure => simp [intOf]; omega
              · obtain ⟨i, rfl, hil⟩ : ∃ i : Nat, oi = (i : Int) ∧ i < ms.length := ⟨oi.toNat, by omega, by omega⟩
                have hxi : ms[i]? = some ms[i] := List.getElem?_eq_getElem hil
                have hyl := HS.out ms[i] (List.getElem_mem hil)
                generalize ms[i] = y at *
                obtain ⟨yf, yt, yb⟩ := y
                simp only at hyl
                as_aux_lemma =>
                  have hmbo := mL
                  go_wp2_with fail
                  generalize wr.alloc (.cells #[.int .i64 1, .int .i64 xf, .int .i64 xt, .slice A' xb.length c', .int .i64 (i : Int)] 35) = W1 at *
                  generalize wr.heap.size = bo at *
                  clear m0 m1 mL c0 c1 c2 c3 c4 hadr
                  have mB := HX1.out.bx (b := mb) (cs := [.int .i64 (n : Int), .slice Ad ms.length cd]) (by simp)
                  have m0 : World.cell? _ ⟨mb, 0, none⟩ = some (.int .i64 (n : Int)) := mB.at_ 0 _ rfl
                  have m1 : World.cell? _ ⟨mb, 1, none⟩ = some (.slice Ad ms.length cd) := mB.at_ 1 _ rfl
                  have mL := mB.lt
                  clear mB
                  have oB := HX1.out.bx (b := bo) (cs := [.int .i64 1, .int .i64 xf, .int .i64 xt, .slice A' xb.length c', .int .i64 (i : Int)]) (by simp)
                  have o0 : World.cell? _ ⟨bo, 0, none⟩ = some (.int .i64 1) := oB.at_ 0 _ rfl
                  have o1 : World.cell? _ ⟨bo, 1, none⟩ = some (.int .i64 xf) := oB.at_ 1 _ rfl
                  have o2 : World.cell? _ ⟨bo, 2, none⟩ = some (.int .i64 xt) := oB.at_ 2 _ rfl
                  have o3 : World.cell? _ ⟨bo, 3, none⟩ = some (.slice A' xb.length c') := oB.at_ 3 _ rfl
                  have o4 : World.cell? _ ⟨bo, 4, none⟩ = some (.int .i64 (i : Int)) := oB.at_ 4 _ rfl
                  have oL := oB.lt
                  clear oB
                  refine (HX1.out.look hxi (by show yb.length ≤ _; omega)).mono ?_
                  rintro e W2 ⟨⟨A2, c2, rfl, ob2⟩, X2⟩
                  have HOB := Lib.hid (ob2.alloc (.cells #[.int .i64 yf, .int .i64 yt, .slice A2 yb.length c2] 39))
                  clear ob2
                  clear mL m0 m1
                  clear oL o0 o1 o2 o3 o4
                  have mB := X2.bx (b := mb) (cs := [.int .i64 (n : Int), .slice Ad ms.length cd]) (by simp)
                  have m0 : World.cell? _ ⟨mb, 0, none⟩ = some (.int .i64 (n : Int)) := mB.at_ 0 _ rfl
                  have m1 : World.cell? _ ⟨mb, 1, none⟩ = some (.slice Ad ms.length cd) := mB.at_ 1 _ rfl
                  have mL := mB.lt
                  clear mB
                  have oB := X2.bx (b := bo) (cs := [.int .i64 1, .int .i64 xf, .int .i64 xt, .slice A' xb.length c', .int .i64 (i : Int)]) (by simp)
                  have o0 : World.cell? _ ⟨bo, 0, none⟩ = some (.int .i64 1) := oB.at_ 0 _ rfl
                  have o1 : World.cell? _ ⟨bo, 1, none⟩ = some (.int .i64 xf) := oB.at_ 1 _ rfl
                  have o2 : World.cell? _ ⟨bo, 2, none⟩ = some (.int .i64 xt) := oB.at_ 2 _ rfl
                  have o3 : World.cell? _ ⟨bo, 3, none⟩ = some (.slice A' xb.length c') := oB.at_ 3 _ rfl
                  have o4 : World.cell? _ ⟨bo, 4, none⟩ = some (.int .i64 (i : Int)) := oB.at_ 4 _ rfl
                  have oL := oB.lt
                  clear oB
                  have hnb := X2.z
                  have HX3 := Lib.hid (X2.box #[.int .i64 yf, .int .i64 yt, .slice A2 yb.length c2] 39)
                  have hmn := mL
                  have hon := oL
                  clear X2
                  go_wp2_with fail
                  generalize W2.alloc (.cells #[.int .i64 yf, .int .i64 yt, .slice A2 yb.length c2] 39) = W3 at *
                  generalize W2.heap.size = nb at *
                  have hmn' : mb ≠ nb := by omega
                  have hon' : bo ≠ nb := by omega
                  clear mL m0 m1
                  clear oL o0 o1 o2 o3 o4
                  have mB := HX3.out.bx (b := mb) (cs := [.int .i64 (n : Int), .slice Ad ms.length cd]) (by simp)
                  have m0 : World.cell? _ ⟨mb, 0, none⟩ = some (.int .i64 (n : Int)) := mB.at_ 0 _ rfl
                  have m1 : World.cell? _ ⟨mb, 1, none⟩ = some (.slice Ad ms.length cd) := mB.at_ 1 _ rfl
                  have mL := mB.lt
                  clear mB
                  have oB := HX3.out.bx (b := bo) (cs := [.int .i64 1, .int .i64 xf, .int .i64 xt, .slice A' xb.length c', .int .i64 (i : Int)]) (by simp)
                  have o0 : World.cell? _ ⟨bo, 0, none⟩ = some (.int .i64 1) := oB.at_ 0 _ rfl
                  have o1 : World.cell? _ ⟨bo, 1, none⟩ = some (.int .i64 xf) := oB.at_ 1 _ rfl
                  have o2 : World.cell? _ ⟨bo, 2, none⟩ = some (.int .i64 xt) := oB.at_ 2 _ rfl
                  have o3 : World.cell? _ ⟨bo, 3, none⟩ = some (.slice A' xb.length c') := oB.at_ 3 _ rfl
                  have o4 : World.cell? _ ⟨bo, 4, none⟩ = some (.int .i64 (i : Int)) := oB.at_ 4 _ rfl
                  have oL := oB.lt
                  clear oB
                  refine (HX3.out.take hxi (by show yb.length ≤ _; omega) hn).mono ?_
                  rintro e W4 ⟨⟨A4, c4, rfl, ob4⟩, X4⟩
                  clear mL m0 m1
                  clear oL o0 o1 o2 o3 o4
                  have mB := X4.bx (b := mb) (cs := [.int .i64 (n : Int), .slice Ad ms.length cd]) (by simp)
                  have m0 : World.cell? _ ⟨mb, 0, none⟩ = some (.int .i64 (n : Int)) := mB.at_ 0 _ rfl
                  have m1 : World.cell? _ ⟨mb, 1, none⟩ = some (.slice Ad ms.length cd) := mB.at_ 1 _ rfl
                  have mL := mB.lt
                  clear mB
                  have oB := X4.bx (b := bo) (cs := [.int .i64 1, .int .i64 xf, .int .i64 xt, .slice A' xb.length c', .int .i64 (i : Int)]) (by simp)
                  have o0 : World.cell? _ ⟨bo, 0, none⟩ = some (.int .i64 1) := oB.at_ 0 _ rfl
                  have o1 : World.cell? _ ⟨bo, 1, none⟩ = some (.int .i64 xf) := oB.at_ 1 _ rfl
                  have o2 : World.cell? _ ⟨bo, 2, none⟩ = some (.int .i64 xt) := oB.at_ 2 _ rfl
                  have o3 : World.cell? _ ⟨bo, 3, none⟩ = some (.slice A' xb.length c') := oB.at_ 3 _ rfl
                  have o4 : World.cell? _ ⟨bo, 4, none⟩ = some (.int .i64 (i : Int)) := oB.at_ 4 _ rfl
                  have oL := oB.lt
                  clear oB
                  have qB := X4.bx (b := nb) (cs := [.int .i64 yf, .int .i64 yt, .slice A2 yb.length c2]) (by simp)
                  have q0 : World.cell? _ ⟨nb, 0, none⟩ = some (.int .i64 yf) := qB.at_ 0 _ rfl
                  have q1 : World.cell? _ ⟨nb, 1, none⟩ = some (.int .i64 yt) := qB.at_ 1 _ rfl
                  have q2 : World.cell? _ ⟨nb, 2, none⟩ = some (.slice A2 yb.length c2) := qB.at_ 2 _ rfl
                  have qL := qB.lt
                  have qf := qB.fr
                  clear qB
                  have hp4 : w.heap.size ≤ W3.heap.size := HX3.out.z
                  have hnl := (HX3.out.bx (b := nb) (cs := [.int .i64 yf, .int .i64 yt, .slice A2 yb.length c2]) (by simp)).lt
                  have HOB4 := Lib.hid (show Ob (((W4.setCell ⟨nb, 0, none⟩ (.int .i64 yf)).setCell ⟨nb, 1, none⟩ (.int .i64 yt)).setCell ⟨nb, 2, none⟩ (.slice A4 yb.length c4)) W3.heap.size (.slice A4 yb.length c4) yb from (((Tn.setCell W4 nb 0 _).then (Tn.setCell _ nb 1 _)).then (Tn.setCell _ nb 2 _)).ob ob4 (fun q hq e => by have := (ob4.lt q hq).1; omega))
                  clear ob4 HOB
                  have X5 := (X4.sub (L' := [(nb, [.int .i64 yf, .int .i64 yt, .slice A2 yb.length c2]), (mb, [.int .i64 (n : Int), .slice Ad ms.length cd]), (bo, [.int .i64 1, .int .i64 xf, .int .i64 xt, .slice A' xb.length c', .int .i64 (i : Int)])]) (LB' := []) (by intro z hz; simp at hz ⊢; rcases hz with rfl | rfl | rfl <;> simp) (by intro y hy; simp at hy)).put3 (by intro z hz; simp at hz; rcases hz with rfl | rfl <;> simp <;> omega) hnb (.int .i64 yf) (.int .i64 yt) (.slice A4 yb.length c4)
                  have HX5 := Lib.hid X5
                  clear X4 X5
                  go_wp2_with fail
                  generalize ((W4.setCell ⟨nb, 0, none⟩ (.int .i64 yf)).setCell ⟨nb, 1, none⟩ (.int .i64 yt)).setCell ⟨nb, 2, none⟩ (.slice A4 yb.length c4) = W5 at *
                  clear mL m0 m1
                  clear oL o0 o1 o2 o3 o4
                  clear qL q0 q1 q2 qf
                  have mB := HX5.out.bx (b := mb) (cs := [.int .i64 (n : Int), .slice Ad ms.length cd]) (by simp)
                  have m0 : World.cell? _ ⟨mb, 0, none⟩ = some (.int .i64 (n : Int)) := mB.at_ 0 _ rfl
                  have m1 : World.cell? _ ⟨mb, 1, none⟩ = some (.slice Ad ms.length cd) := mB.at_ 1 _ rfl
                  have mL := mB.lt
                  clear mB
                  have oB := HX5.out.bx (b := bo) (cs := [.int .i64 1, .int .i64 xf, .int .i64 xt, .slice A' xb.length c', .int .i64 (i : Int)]) (by simp)
                  have o0 : World.cell? _ ⟨bo, 0, none⟩ = some (.int .i64 1) := oB.at_ 0 _ rfl
                  have o1 : World.cell? _ ⟨bo, 1, none⟩ = some (.int .i64 xf) := oB.at_ 1 _ rfl
                  have o2 : World.cell? _ ⟨bo, 2, none⟩ = some (.int .i64 xt) := oB.at_ 2 _ rfl
                  have o3 : World.cell? _ ⟨bo, 3, none⟩ = some (.slice A' xb.length c') := oB.at_ 3 _ rfl
                  have o4 : World.cell? _ ⟨bo, 4, none⟩ = some (.int .i64 (i : Int)) := oB.at_ 4 _ rfl
                  have oL := oB.lt
                  clear oB
                  have qB := HX5.out.bx (b := nb) (cs := [.int .i64 yf, .int .i64 yt, .slice A4 yb.length c4]) (by simp)
                  have q0 : World.cell? _ ⟨nb, 0, none⟩ = some (.int .i64 yf) := qB.at_ 0 _ rfl
                  have q1 : World.cell? _ ⟨nb, 1, none⟩ = some (.int .i64 yt) := qB.at_ 1 _ rfl
                  have q2 : World.cell? _ ⟨nb, 2, none⟩ = some (.slice A4 yb.length c4) := qB.at_ 2 _ rfl
                  have qL := qB.lt
                  clear qB
                  refine (has_yes (n : Int) i Ad ms.length cd W5 (by omega)).mono ?_
                  rintro e W6 ⟨rfl, b6⟩
                  have HX6 := Lib.hid (HX5.out.new b6)
                  clear mL m0 m1
                  clear oL o0 o1 o2 o3 o4
                  clear qL q0 q1 q2
                  have mB := HX6.out.bx (b := mb) (cs := [.int .i64 (n : Int), .slice Ad ms.length cd]) (by simp)
                  have m0 : World.cell? _ ⟨mb, 0, none⟩ = some (.int .i64 (n : Int)) := mB.at_ 0 _ rfl
                  have m1 : World.cell? _ ⟨mb, 1, none⟩ = some (.slice Ad ms.length cd) := mB.at_ 1 _ rfl
                  have mL := mB.lt
                  have mf := mB.fr
                  clear mB
                  have oB := HX6.out.bx (b := bo) (cs := [.int .i64 1, .int .i64 xf, .int .i64 xt, .slice A' xb.length c', .int .i64 (i : Int)]) (by simp)
                  have o0 : World.cell? _ ⟨bo, 0, none⟩ = some (.int .i64 1) := oB.at_ 0 _ rfl
                  have o1 : World.cell? _ ⟨bo, 1, none⟩ = some (.int .i64 xf) := oB.at_ 1 _ rfl
                  have o2 : World.cell? _ ⟨bo, 2, none⟩ = some (.int .i64 xt) := oB.at_ 2 _ rfl
                  have o3 : World.cell? _ ⟨bo, 3, none⟩ = some (.slice A' xb.length c') := oB.at_ 3 _ rfl
                  have o4 : World.cell? _ ⟨bo, 4, none⟩ = some (.int .i64 (i : Int)) := oB.at_ 4 _ rfl
                  have oL := oB.lt
                  clear oB
                  have qB := HX6.out.bx (b := nb) (cs := [.int .i64 yf, .int .i64 yt, .slice A4 yb.length c4]) (by simp)
                  have q0 : World.cell? _ ⟨nb, 0, none⟩ = some (.int .i64 yf) := qB.at_ 0 _ rfl
                  have q1 : World.cell? _ ⟨nb, 1, none⟩ = some (.int .i64 yt) := qB.at_ 1 _ rfl
                  have q2 : World.cell? _ ⟨nb, 2, none⟩ = some (.slice A4 yb.length c4) := qB.at_ 2 _ rfl
                  have qL := qB.lt
                  clear qB
                  obtain ⟨da, dA, dc, rfl, hdab, d0, d1, d2, hdbs⟩ := HX6.out.get hxi
                  simp only at d0 d1 d2 hdbs
                  have o6 : HBs W6 W6.heap.size A4 c4 yb := HBs.mk (HOB4.out.below b6).bs.1 (Nat.le_refl _)
                  have o7 : HBs W6 W6.heap.size dA dc yb := HBs.mk hdbs (Nat.le_refl _)
                  have hxc := o6.out.le
                  have hxm := o6.out.max
                  unfold maxLen at hxm
                  have b0 : Below W6.heap.size W6 W6 := Below.refl _ _
                  clear b6 hdbs
                  go_wp2_with fail
                  go_region_held3 (fun w' => w'.cell? ⟨nb, 0, none⟩ = some (.int .i64 yf) ∧ w'.cell? ⟨nb, 1, none⟩ = some (.int .i64 yt) ∧ w'.cell? ⟨nb, 2, none⟩ = some (.slice A4 yb.length c4) ∧ w'.cell? ⟨mb, 0, none⟩ = some (.int .i64 (n : Int)) ∧ w'.cell? ⟨mb, 1, none⟩ = some (.slice (some da) ms.length cd) ∧ w'.cell? ⟨bo, 4, none⟩ = some (.int .i64 (i : Int)) ∧ w'.cell? (da.add (i * 3)) = some (.int .i64 yf) ∧ w'.cell? ⟨(da.add (i * 3)).block, (da.add (i * 3)).off + 1, none⟩ = some (.int .i64 yt) ∧ w'.cell? ⟨(da.add (i * 3)).block, (da.add (i * 3)).off + 2, none⟩ = some (.slice dA yb.length dc) ∧ HBs w' W6.heap.size A4 c4 yb ∧ HBs w' W6.heap.size dA dc yb ∧ Below W6.heap.size W6 w')
                    (((try dsimp only); go_split_ands; (repeat' apply And.intro) <;> first | assumption | (apply hbs_drew; assumption) | (apply hbs_keep; assumption; assumption) | (apply kept; assumption; assumption) | (apply via; assumption; assumption; apply Below.size; assumption) | (go_grown; done) | (repeat' first | assumption | (simp; done) | apply keptD | apply keptA)))
                    (first
                      | (go_at_call 13; refine (fromM_any _ _ _ _ _ _).mono ?_; rintro e w6 ⟨rfl, hb6⟩)
                      | (go_at_call 12; go_split_ands; refine (sameM_refl yf yt A4 dA c4 dc _ _ yb _ (HBs.out (by assumption)) (HBs.out (by assumption)) (HBs.le (by assumption)) (HBs.le (by assumption))).mono ?_; rintro e w7 ⟨rfl, hb7⟩))
                  go_split_ands
                  rename Below W6.heap.size W6 _ => B7
                  rename World => W7
                  have X7 := HX6.out.new B7
                  clear b0 o6 o7 d0 d1 d2 mL oL qL
                  have mB := X7.bx (b := mb) (cs := [.int .i64 (n : Int), .slice (some da) ms.length cd]) (by simp)
                  have m0 : World.cell? _ ⟨mb, 0, none⟩ = some (.int .i64 (n : Int)) := mB.at_ 0 _ rfl
                  have m1 : World.cell? _ ⟨mb, 1, none⟩ = some (.slice (some da) ms.length cd) := mB.at_ 1 _ rfl
                  have mL := mB.lt
                  clear mB
                  have oB := X7.bx (b := bo) (cs := [.int .i64 1, .int .i64 xf, .int .i64 xt, .slice A' xb.length c', .int .i64 (i : Int)]) (by simp)
                  have o0 : World.cell? _ ⟨bo, 0, none⟩ = some (.int .i64 1) := oB.at_ 0 _ rfl
                  have o1 : World.cell? _ ⟨bo, 1, none⟩ = some (.int .i64 xf) := oB.at_ 1 _ rfl
                  have o2 : World.cell? _ ⟨bo, 2, none⟩ = some (.int .i64 xt) := oB.at_ 2 _ rfl
                  have o3 : World.cell? _ ⟨bo, 3, none⟩ = some (.slice A' xb.length c') := oB.at_ 3 _ rfl
                  have o4 : World.cell? _ ⟨bo, 4, none⟩ = some (.int .i64 (i : Int)) := oB.at_ 4 _ rfl
                  have oL := oB.lt
                  clear oB
                  have HX7 := Lib.hid X7
                  clear X7
                  go_wp2_with fail
                  refine (HX7.out.without (rm := (n : Int)) hil (by omega)).mono ?_
                  rintro e W8 ⟨A8, c8, rfl, X8⟩
                  have hs8 : ∀ x ∈ ms.eraseIdx i, x.b.length ≤ 3000 := fun x hx => HS.out x (List.mem_of_mem_eraseIdx hx)
                  generalize ms.eraseIdx i = ms8 at *
                  have HS8 := Lib.hid hs8
                  clear hs8
                  clear mL m0 m1
                  clear oL o0 o1 o2 o3 o4
                  have mB := X8.bx (b := mb) (cs := [.int .i64 (n : Int), .slice (some da) ms.length cd]) (by simp)
                  have m0 : World.cell? _ ⟨mb, 0, none⟩ = some (.int .i64 (n : Int)) := mB.at_ 0 _ rfl
                  have m1 : World.cell? _ ⟨mb, 1, none⟩ = some (.slice (some da) ms.length cd) := mB.at_ 1 _ rfl
                  have mL := mB.lt
                  have mf := mB.fr
                  clear mB
                  have hmbz := X8.z
                  have X10 := (X8.sub (L' := [(mb, [.int .i64 (n : Int), .slice (some da) ms.length cd])]) (LB' := []) (by intro z hz; simp at hz ⊢; simp [hz]) (by intro y hy; simp at hy)).put (by intro z hz; simp at hz) hmb (.int .i64 (n : Int)) (.slice A8 ms8.length c8)
                  have HX10 := Lib.hid X10
                  clear X8 X10
                  go_wp2_with fail
                  have X9 := HX10.out
                  refine (X9.same (n : Int) HS8.out hn).mono ?_
                  rintro e w8 ⟨rfl, X8⟩
                  have HX8 := Lib.hid X8
                  clear X8 X9
                  go_wp2_with fail
                  go_roundw
                  case rel => exact ⟨k + 1, A8, c8, ms8, by omega, by simp, HX8.out.sub (by intro z hz; simp at hz ⊢; simp [hz]) (by intro y hy; simp at hy), HS8.out⟩
                  case measure => simp [intOf]; omega
            · have e1 : (kd == (1 : Int)) = false := by simpa using k1
              by_cases k3 : kd = 3
              · subst k3
                have HX1 := Lib.hid (HX.out.box #[.int .i64 3, .int .i64 xf, .int .i64 xt, .slice A' xb.length c', .int .i64 oi] 35)
                by_cases hi : oi < 0 ∨ (ms.length : Int) ≤ oi
                · as_aux_lemma =>
                    have hmbo := mL
                    go_wp2_with fail
                    generalize wr.alloc (.cells #[.int .i64 3, .int .i64 xf, .int .i64 xt, .slice A' xb.length c', .int .i64 oi] 35) = W1 at *
                    generalize wr.heap.size = bo at *
                    clear m0 m1 mL c0 c1 c2 c3 c4 hadr
                    have mB := HX1.out.bx (b := mb) (cs := [.int .i64 (n : Int), .slice Ad ms.length cd]) (by simp)
                    have m0 : World.cell? _ ⟨mb, 0, none⟩ = some (.int .i64 (n : Int)) := mB.at_ 0 _ rfl
                    have m1 : World.cell? _ ⟨mb, 1, none⟩ = some (.slice Ad ms.length cd) := mB.at_ 1 _ rfl
                    have mL := mB.lt
                    clear mB
                    have oB := HX1.out.bx (b := bo) (cs := [.int .i64 3, .int .i64 xf, .int .i64 xt, .slice A' xb.length c', .int .i64 oi]) (by simp)
                    have o0 : World.cell? _ ⟨bo, 0, none⟩ = some (.int .i64 3) := oB.at_ 0 _ rfl
                    have o1 : World.cell? _ ⟨bo, 1, none⟩ = some (.int .i64 xf) := oB.at_ 1 _ rfl
                    have o2 : World.cell? _ ⟨bo, 2, none⟩ = some (.int .i64 xt) := oB.at_ 2 _ rfl
                    have o3 : World.cell? _ ⟨bo, 3, none⟩ = some (.slice A' xb.length c') := oB.at_ 3 _ rfl
                    have o4 : World.cell? _ ⟨bo, 4, none⟩ = some (.int .i64 oi) := oB.at_ 4 _ rfl
                    have oL := oB.lt
                    clear oB
                    refine (HX1.out.miss hi).1.mono ?_
                    rintro e W2 ⟨rfl, X2⟩
                    clear mL m0 m1
                    clear oL o0 o1 o2 o3 o4
                    have mB := X2.bx (b := mb) (cs := [.int .i64 (n : Int), .slice Ad ms.length cd]) (by simp)
                    have m0 : World.cell? _ ⟨mb, 0, none⟩ = some (.int .i64 (n : Int)) := mB.at_ 0 _ rfl
                    have m1 : World.cell? _ ⟨mb, 1, none⟩ = some (.slice Ad ms.length cd) := mB.at_ 1 _ rfl
                    have mL := mB.lt
                    clear mB
                    have oB := X2.bx (b := bo) (cs := [.int .i64 3, .int .i64 xf, .int .i64 xt, .slice A' xb.length c', .int .i64 oi]) (by simp)
                    have o0 : World.cell? _ ⟨bo, 0, none⟩ = some (.int .i64 3) := oB.at_ 0 _ rfl
                    have o1 : World.cell? _ ⟨bo, 1, none⟩ = some (.int .i64 xf) := oB.at_ 1 _ rfl
                    have o2 : World.cell? _ ⟨bo, 2, none⟩ = some (.int .i64 xt) := oB.at_ 2 _ rfl
                    have o3 : World.cell? _ ⟨bo, 3, none⟩ = some (.slice A' xb.length c') := oB.at_ 3 _ rfl
                    have o4 : World.cell? _ ⟨bo, 4, none⟩ = some (.int .i64 oi) := oB.at_ 4 _ rfl
                    have oL := oB.lt
                    clear oB
                    have hnb := X2.z
                    have HX3 := Lib.hid (X2.box #[.int .i64 0, .int .i64 0, .slice none 0 0] 39)
                    have hmn := mL
                    have hon := oL
                    clear X2
                    go_wp2_with fail
                    generalize W2.alloc (.cells #[.int .i64 0, .int .i64 0, .slice none 0 0] 39) = W3 at *
                    generalize W2.heap.size = nb at *
                    have hmn' : mb ≠ nb := by omega
                    have hon' : bo ≠ nb := by omega
                    clear mL m0 m1
                    clear oL o0 o1 o2 o3 o4
                    have mB := HX3.out.bx (b := mb) (cs := [.int .i64 (n : Int), .slice Ad ms.length cd]) (by simp)
                    have m0 : World.cell? _ ⟨mb, 0, none⟩ = some (.int .i64 (n : Int)) := mB.at_ 0 _ rfl
                    have m1 : World.cell? _ ⟨mb, 1, none⟩ = some (.slice Ad ms.length cd) := mB.at_ 1 _ rfl
                    have mL := mB.lt
                    clear mB
                    have oB := HX3.out.bx (b := bo) (cs := [.int .i64 3, .int .i64 xf, .int .i64 xt, .slice A' xb.length c', .int .i64 oi]) (by simp)
                    have o0 : World.cell? _ ⟨bo, 0, none⟩ = some (.int .i64 3) := oB.at_ 0 _ rfl
                    have o1 : World.cell? _ ⟨bo, 1, none⟩ = some (.int .i64 xf) := oB.at_ 1 _ rfl
                    have o2 : World.cell? _ ⟨bo, 2, none⟩ = some (.int .i64 xt) := oB.at_ 2 _ rfl
                    have o3 : World.cell? _ ⟨bo, 3, none⟩ = some (.slice A' xb.length c') := oB.at_ 3 _ rfl
                    have o4 : World.cell? _ ⟨bo, 4, none⟩ = some (.int .i64 oi) := oB.at_ 4 _ rfl
                    have oL := oB.lt
                    clear oB
                    have qB := HX3.out.bx (b := nb) (cs := [.int .i64 0, .int .i64 0, .slice none 0 0]) (by simp)
                    have q0 : World.cell? _ ⟨nb, 0, none⟩ = some (.int .i64 0) := qB.at_ 0 _ rfl
                    have q1 : World.cell? _ ⟨nb, 1, none⟩ = some (.int .i64 0) := qB.at_ 1 _ rfl
                    have q2 : World.cell? _ ⟨nb, 2, none⟩ = some (.slice none 0 0) := qB.at_ 2 _ rfl
                    have qL := qB.lt
                    clear qB
                    refine (has_no (n : Int) oi Ad ms.length cd W3 hi).mono ?_
                    rintro e W6 ⟨rfl, b6⟩
                    have HX6 := Lib.hid (HX3.out.new b6)
                    clear mL m0 m1
                    clear oL o0 o1 o2 o3 o4
                    clear qL q0 q1 q2
                    have mB := HX6.out.bx (b := mb) (cs := [.int .i64 (n : Int), .slice Ad ms.length cd]) (by simp)
                    have m0 : World.cell? _ ⟨mb, 0, none⟩ = some (.int .i64 (n : Int)) := mB.at_ 0 _ rfl
                    have m1 : World.cell? _ ⟨mb, 1, none⟩ = some (.slice Ad ms.length cd) := mB.at_ 1 _ rfl
                    have mL := mB.lt
                    clear mB
                    have oB := HX6.out.bx (b := bo) (cs := [.int .i64 3, .int .i64 xf, .int .i64 xt, .slice A' xb.length c', .int .i64 oi]) (by simp)
                    have o0 : World.cell? _ ⟨bo, 0, none⟩ = some (.int .i64 3) := oB.at_ 0 _ rfl
                    have o1 : World.cell? _ ⟨bo, 1, none⟩ = some (.int .i64 xf) := oB.at_ 1 _ rfl
                    have o2 : World.cell? _ ⟨bo, 2, none⟩ = some (.int .i64 xt) := oB.at_ 2 _ rfl
                    have o3 : World.cell? _ ⟨bo, 3, none⟩ = some (.slice A' xb.length c') := oB.at_ 3 _ rfl
                    have o4 : World.cell? _ ⟨bo, 4, none⟩ = some (.int .i64 oi) := oB.at_ 4 _ rfl
                    have oL := oB.lt
                    clear oB
                    have qB := HX6.out.bx (b := nb) (cs := [.int .i64 0, .int .i64 0, .slice none 0 0]) (by simp)
                    have q0 : World.cell? _ ⟨nb, 0, none⟩ = some (.int .i64 0) := qB.at_ 0 _ rfl
                    have q1 : World.cell? _ ⟨nb, 1, none⟩ = some (.int .i64 0) := qB.at_ 1 _ rfl
                    have q2 : World.cell? _ ⟨nb, 2, none⟩ = some (.slice none 0 0) := qB.at_ 2 _ rfl
                    have qL := qB.lt
                    clear qB
                    clear b6
                    go_wp2_with fail
                    refine (fromM_any 0 0 none 0 0 _).mono ?_
                    rintro e W7 ⟨rfl, b7⟩
                    clear mL m0 m1
                    clear oL o0 o1 o2 o3 o4
                    clear qL q0 q1 q2
                    have X7 := HX6.out.new b7
                    have mB := X7.bx (b := mb) (cs := [.int .i64 (n : Int), .slice Ad ms.length cd]) (by simp)
                    have m0 : World.cell? _ ⟨mb, 0, none⟩ = some (.int .i64 (n : Int)) := mB.at_ 0 _ rfl
                    have m1 : World.cell? _ ⟨mb, 1, none⟩ = some (.slice Ad ms.length cd) := mB.at_ 1 _ rfl
                    have mL := mB.lt
                    clear mB
                    have HX7 := Lib.hid X7
                    clear X7 b7
                    go_wp2_with fail
                    refine (same_nil _).mono ?_
                    rintro e W8 ⟨rfl, b8⟩
                    clear mL m0 m1
                    have HX8 := Lib.hid (HX7.out.new b8)
                    have mB := HX8.out.bx (b := mb) (cs := [.int .i64 (n : Int), .slice Ad ms.length cd]) (by simp)
                    have m0 : World.cell? _ ⟨mb, 0, none⟩ = some (.int .i64 (n : Int)) := mB.at_ 0 _ rfl
                    have m1 : World.cell? _ ⟨mb, 1, none⟩ = some (.slice Ad ms.length cd) := mB.at_ 1 _ rfl
                    have mL := mB.lt
                    clear mB
                    clear b8
                    go_wp2_with fail
                    have X9 := HX8.out
                    refine (X9.same (n : Int) HS.out hn).mono ?_
                    rintro e w8 ⟨rfl, X8⟩
                    have HX8 := Lib.hid X8
                    clear X8 X9
                    go_wp2_with fail
                    go_roundw
                    case rel => exact ⟨k + 1, Ad, cd, ms, by omega, by simp, HX8.out.sub (by intro z hz; simp at hz ⊢; simp [hz]) (by intro y hy; simp at hy), HS.out⟩
                    case measure => simp [intOf]; omega
                · obtain ⟨i, rfl, hil⟩ : ∃ i : Nat, oi = (i : Int) ∧ i < ms.length := ⟨oi.toNat, by omega, by omega⟩
                  have hxi : ms[i]? = some ms[i] := List.getElem?_eq_getElem hil
                  have hyl := HS.out ms[i] (List.getElem_mem hil)
                  generalize ms[i] = y at *
                  obtain ⟨yf, yt, yb⟩ := y
                  simp only at hyl
                  as_aux_lemma =>
                    have hmbo := mL
                    go_wp2_with fail
                    generalize wr.alloc (.cells #[.int .i64 3, .int .i64 xf, .int .i64 xt, .slice A' xb.length c', .int .i64 (i : Int)] 35) = W1 at *
                    generalize wr.heap.size = bo at *
                    clear m0 m1 mL c0 c1 c2 c3 c4 hadr
                    have mB := HX1.out.bx (b := mb) (cs := [.int .i64 (n : Int), .slice Ad ms.length cd]) (by simp)
                    have m0 : World.cell? _ ⟨mb, 0, none⟩ = some (.int .i64 (n : Int)) := mB.at_ 0 _ rfl
                    have m1 : World.cell? _ ⟨mb, 1, none⟩ = some (.slice Ad ms.length cd) := mB.at_ 1 _ rfl
                    have mL := mB.lt
                    clear mB
                    have oB := HX1.out.bx (b := bo) (cs := [.int .i64 3, .int .i64 xf, .int .i64 xt, .slice A' xb.length c', .int .i64 (i : Int)]) (by simp)
                    have o0 : World.cell? _ ⟨bo, 0, none⟩ = some (.int .i64 3) := oB.at_ 0 _ rfl
                    have o1 : World.cell? _ ⟨bo, 1, none⟩ = some (.int .i64 xf) := oB.at_ 1 _ rfl
                    have o2 : World.cell? _ ⟨bo, 2, none⟩ = some (.int .i64 xt) := oB.at_ 2 _ rfl
                    have o3 : World.cell? _ ⟨bo, 3, none⟩ = some (.slice A' xb.length c') := oB.at_ 3 _ rfl
                    have o4 : World.cell? _ ⟨bo, 4, none⟩ = some (.int .i64 (i : Int)) := oB.at_ 4 _ rfl
                    have oL := oB.lt
                    clear oB
                    refine (HX1.out.look hxi (by show yb.length ≤ _; omega)).mono ?_
                    rintro e W2 ⟨⟨A2, c2, rfl, ob2⟩, X2⟩
                    have HOB := Lib.hid (ob2.alloc (.cells #[.int .i64 yf, .int .i64 yt, .slice A2 yb.length c2] 39))
                    clear ob2
                    clear mL m0 m1
                    clear oL o0 o1 o2 o3 o4
                    have mB := X2.bx (b := mb) (cs := [.int .i64 (n : Int), .slice Ad ms.length cd]) (by simp)
                    have m0 : World.cell? _ ⟨mb, 0, none⟩ = some (.int .i64 (n : Int)) := mB.at_ 0 _ rfl
                    have m1 : World.cell? _ ⟨mb, 1, none⟩ = some (.slice Ad ms.length cd) := mB.at_ 1 _ rfl
                    have mL := mB.lt
                    clear mB
                    have oB := X2.bx (b := bo) (cs := [.int .i64 3, .int .i64 xf, .int .i64 xt, .slice A' xb.length c', .int .i64 (i : Int)]) (by simp)
                    have o0 : World.cell? _ ⟨bo, 0, none⟩ = some (.int .i64 3) := oB.at_ 0 _ rfl
                    have o1 : World.cell? _ ⟨bo, 1, none⟩ = some (.int .i64 xf) := oB.at_ 1 _ rfl
                    have o2 : World.cell? _ ⟨bo, 2, none⟩ = some (.int .i64 xt) := oB.at_ 2 _ rfl
                    have o3 : World.cell? _ ⟨bo, 3, none⟩ = some (.slice A' xb.length c') := oB.at_ 3 _ rfl
                    have o4 : World.cell? _ ⟨bo, 4, none⟩ = some (.int .i64 (i : Int)) := oB.at_ 4 _ rfl
                    have oL := oB.lt
                    clear oB
                    have hnb := X2.z
                    have HX3 := Lib.hid (X2.box #[.int .i64 yf, .int .i64 yt, .slice A2 yb.length c2] 39)
                    have hmn := mL
                    have hon := oL
                    clear X2
                    go_wp2_with fail
                    generalize W2.alloc (.cells #[.int .i64 yf, .int .i64 yt, .slice A2 yb.length c2] 39) = W3 at *
                    generalize W2.heap.size = nb at *
                    have hmn' : mb ≠ nb := by omega
                    have hon' : bo ≠ nb := by omega
                    clear mL m0 m1
                    clear oL o0 o1 o2 o3 o4
                    have mB := HX3.out.bx (b := mb) (cs := [.int .i64 (n : Int), .slice Ad ms.length cd]) (by simp)
                    have m0 : World.cell? _ ⟨mb, 0, none⟩ = some (.int .i64 (n : Int)) := mB.at_ 0 _ rfl
                    have m1 : World.cell? _ ⟨mb, 1, none⟩ = some (.slice Ad ms.length cd) := mB.at_ 1 _ rfl
                    have mL := mB.lt
                    clear mB
                    have oB := HX3.out.bx (b := bo) (cs := [.int .i64 3, .int .i64 xf, .int .i64 xt, .slice A' xb.length c', .int .i64 (i : Int)]) (by simp)
                    have o0 : World.cell? _ ⟨bo, 0, none⟩ = some (.int .i64 3) := oB.at_ 0 _ rfl
                    have o1 : World.cell? _ ⟨bo, 1, none⟩ = some (.int .i64 xf) := oB.at_ 1 _ rfl
                    have o2 : World.cell? _ ⟨bo, 2, none⟩ = some (.int .i64 xt) := oB.at_ 2 _ rfl
                    have o3 : World.cell? _ ⟨bo, 3, none⟩ = some (.slice A' xb.length c') := oB.at_ 3 _ rfl
                    have o4 : World.cell? _ ⟨bo, 4, none⟩ = some (.int .i64 (i : Int)) := oB.at_ 4 _ rfl
                    have oL := oB.lt
                    clear oB
                    have qB := HX3.out.bx (b := nb) (cs := [.int .i64 yf, .int .i64 yt, .slice A2 yb.length c2]) (by simp)
                    have q0 : World.cell? _ ⟨nb, 0, none⟩ = some (.int .i64 yf) := qB.at_ 0 _ rfl
                    have q1 : World.cell? _ ⟨nb, 1, none⟩ = some (.int .i64 yt) := qB.at_ 1 _ rfl
                    have q2 : World.cell? _ ⟨nb, 2, none⟩ = some (.slice A2 yb.length c2) := qB.at_ 2 _ rfl
                    have qL := qB.lt
                    clear qB
                    refine (has_yes (n : Int) i Ad ms.length cd W3 (by omega)).mono ?_
                    rintro e W6 ⟨rfl, b6⟩
                    have HX6 := Lib.hid (HX3.out.new b6)
                    clear mL m0 m1
                    clear oL o0 o1 o2 o3 o4
                    clear qL q0 q1 q2
                    have mB := HX6.out.bx (b := mb) (cs := [.int .i64 (n : Int), .slice Ad ms.length cd]) (by simp)
                    have m0 : World.cell? _ ⟨mb, 0, none⟩ = some (.int .i64 (n : Int)) := mB.at_ 0 _ rfl
                    have m1 : World.cell? _ ⟨mb, 1, none⟩ = some (.slice Ad ms.length cd) := mB.at_ 1 _ rfl
                    have mL := mB.lt
                    clear mB
                    have oB := HX6.out.bx (b := bo) (cs := [.int .i64 3, .int .i64 xf, .int .i64 xt, .slice A' xb.length c', .int .i64 (i : Int)]) (by simp)
                    have o0 : World.cell? _ ⟨bo, 0, none⟩ = some (.int .i64 3) := oB.at_ 0 _ rfl
                    have o1 : World.cell? _ ⟨bo, 1, none⟩ = some (.int .i64 xf) := oB.at_ 1 _ rfl
                    have o2 : World.cell? _ ⟨bo, 2, none⟩ = some (.int .i64 xt) := oB.at_ 2 _ rfl
                    have o3 : World.cell? _ ⟨bo, 3, none⟩ = some (.slice A' xb.length c') := oB.at_ 3 _ rfl
                    have o4 : World.cell? _ ⟨bo, 4, none⟩ = some (.int .i64 (i : Int)) := oB.at_ 4 _ rfl
                    have oL := oB.lt
                    clear oB
                    have qB := HX6.out.bx (b := nb) (cs := [.int .i64 yf, .int .i64 yt, .slice A2 yb.length c2]) (by simp)
                    have q0 : World.cell? _ ⟨nb, 0, none⟩ = some (.int .i64 yf) := qB.at_ 0 _ rfl
                    have q1 : World.cell? _ ⟨nb, 1, none⟩ = some (.int .i64 yt) := qB.at_ 1 _ rfl
                    have q2 : World.cell? _ ⟨nb, 2, none⟩ = some (.slice A2 yb.length c2) := qB.at_ 2 _ rfl
                    have qL := qB.lt
                    clear qB
                    obtain ⟨da, dA, dc, rfl, hdab, d0, d1, d2, hdbs⟩ := HX6.out.get hxi
                    simp only at d0 d1 d2 hdbs
                    have o6 : HBs W6 W6.heap.size A2 c2 yb := HBs.mk (HOB.out.below b6).bs.1 (Nat.le_refl _)
                    have o7 : HBs W6 W6.heap.size dA dc yb := HBs.mk hdbs (Nat.le_refl _)
                    have hxc := o6.out.le
                    have hxm := o6.out.max
                    unfold maxLen at hxm
                    have b0 : Below W6.heap.size W6 W6 := Below.refl _ _
                    clear b6 hdbs
                    go_wp2_with fail
                    go_region_held3 (fun w' => w'.cell? ⟨nb, 0, none⟩ = some (.int .i64 yf) ∧ w'.cell? ⟨nb, 1, none⟩ = some (.int .i64 yt) ∧ w'.cell? ⟨nb, 2, none⟩ = some (.slice A2 yb.length c2) ∧ w'.cell? ⟨mb, 0, none⟩ = some (.int .i64 (n : Int)) ∧ w'.cell? ⟨mb, 1, none⟩ = some (.slice (some da) ms.length cd) ∧ w'.cell? ⟨bo, 4, none⟩ = some (.int .i64 (i : Int)) ∧ w'.cell? (da.add (i * 3)) = some (.int .i64 yf) ∧ w'.cell? ⟨(da.add (i * 3)).block, (da.add (i * 3)).off + 1, none⟩ = some (.int .i64 yt) ∧ w'.cell? ⟨(da.add (i * 3)).block, (da.add (i * 3)).off + 2, none⟩ = some (.slice dA yb.length dc) ∧ HBs w' W6.heap.size A2 c2 yb ∧ HBs w' W6.heap.size dA dc yb ∧ Below W6.heap.size W6 w')
                      (((try dsimp only); go_split_ands; (repeat' apply And.intro) <;> first | assumption | (apply hbs_drew; assumption) | (apply hbs_keep; assumption; assumption) | (apply kept; assumption; assumption) | (apply via; assumption; assumption; apply Below.size; assumption) | (go_grown; done) | (repeat' first | assumption | (simp; done) | apply keptD | apply keptA)))
                      (first
                        | (go_at_call 13; refine (fromM_any _ _ _ _ _ _).mono ?_; rintro e w6 ⟨rfl, hb6⟩)
                        | (go_at_call 12; go_split_ands; refine (sameM_refl yf yt A2 dA c2 dc _ _ yb _ (HBs.out (by assumption)) (HBs.out (by assumption)) (HBs.le (by assumption)) (HBs.le (by assumption))).mono ?_; rintro e w7 ⟨rfl, hb7⟩))
                    go_split_ands
                    rename Below W6.heap.size W6 _ => B7
                    rename World => W7
                    have X7 := HX6.out.new B7
                    clear b0 o6 o7 d0 d1 d2 mL oL qL
                    have mB := X7.bx (b := mb) (cs := [.int .i64 (n : Int), .slice (some da) ms.length cd]) (by simp)
                    have m0 : World.cell? _ ⟨mb, 0, none⟩ = some (.int .i64 (n : Int)) := mB.at_ 0 _ rfl
                    have m1 : World.cell? _ ⟨mb, 1, none⟩ = some (.slice (some da) ms.length cd) := mB.at_ 1 _ rfl
                    have mL := mB.lt
                    clear mB
                    have oB := X7.bx (b := bo) (cs := [.int .i64 3, .int .i64 xf, .int .i64 xt, .slice A' xb.length c', .int .i64 (i : Int)]) (by simp)
                    have o0 : World.cell? _ ⟨bo, 0, none⟩ = some (.int .i64 3) := oB.at_ 0 _ rfl
                    have o1 : World.cell? _ ⟨bo, 1, none⟩ = some (.int .i64 xf) := oB.at_ 1 _ rfl
                    have o2 : World.cell? _ ⟨bo, 2, none⟩ = some (.int .i64 xt) := oB.at_ 2 _ rfl
                    have o3 : World.cell? _ ⟨bo, 3, none⟩ = some (.slice A' xb.length c') := oB.at_ 3 _ rfl
                    have o4 : World.cell? _ ⟨bo, 4, none⟩ = some (.int .i64 (i : Int)) := oB.at_ 4 _ rfl
                    have oL := oB.lt
                    clear oB
                    have HX7 := Lib.hid X7
                    clear X7
                    go_wp2_with fail
                    have X9 := HX7.out
                    refine (X9.same (n : Int) HS.out hn).mono ?_
                    rintro e w8 ⟨rfl, X8⟩
                    have HX8 := Lib.hid X8
                    clear X8 X9
                    go_wp2_with fail
                    go_roundw
                    case rel => exact ⟨k + 1, some da, cd, ms, by omega, by simp, HX8.out.sub (by intro z hz; simp at hz ⊢; simp [hz]) (by intro y hy; simp at hy), HS.out⟩
                    case measure => simp [intOf]; omega
              · have e3 : (kd == (3 : Int)) = false := by simpa using k3
                by_cases k2 : kd = 2
                · subst k2
                  have HX1 := Lib.hid (HX.out.box #[.int .i64 2, .int .i64 xf, .int .i64 xt, .slice A' xb.length c', .int .i64 oi] 35)
                  by_cases hi : oi < 0 ∨ (ms.length : Int) ≤ oi
                  · as_aux_lemma =>
                      have hmbo := mL
                      have X2 := HX1.out.box #[.int .i64 (n : Int), .slice Ad ms.length cd] 30
                      rw [show (wr.alloc (.cells #[.int .i64 2, .int .i64 xf, .int .i64 xt, .slice A' xb.length c', .int .i64 oi] 35)).heap.size = wr.heap.size + 1 by simp] at X2
                      have HX2 := Lib.hid X2
                      clear X2
                      go_wp2_with fail
                      generalize (wr.alloc (.cells #[.int .i64 2, .int .i64 xf, .int .i64 xt, .slice A' xb.length c', .int .i64 oi] 35)).alloc (.cells #[.int .i64 (n : Int), .slice Ad ms.length cd] 30) = W2 at *
                      generalize wr.heap.size = bo at *
                      clear m0 m1 mL c0 c1 c2 c3 c4 hadr HX1
                      have hmn : mb ≠ bo + 1 := by omega
                      have hon : bo ≠ bo + 1 := by omega
                      have mB := HX2.out.bx (b := mb) (cs := [.int .i64 (n : Int), .slice Ad ms.length cd]) (by simp)
                      have m0 : World.cell? _ ⟨mb, 0, none⟩ = some (.int .i64 (n : Int)) := mB.at_ 0 _ rfl
                      have m1 : World.cell? _ ⟨mb, 1, none⟩ = some (.slice Ad ms.length cd) := mB.at_ 1 _ rfl
                      have mL := mB.lt
                      clear mB
                      have oB := HX2.out.bx (b := bo) (cs := [.int .i64 2, .int .i64 xf, .int .i64 xt, .slice A' xb.length c', .int .i64 oi]) (by simp)
                      have o0 : World.cell? _ ⟨bo, 0, none⟩ = some (.int .i64 2) := oB.at_ 0 _ rfl
                      have o1 : World.cell? _ ⟨bo, 1, none⟩ = some (.int .i64 xf) := oB.at_ 1 _ rfl
                      have o2 : World.cell? _ ⟨bo, 2, none⟩ = some (.int .i64 xt) := oB.at_ 2 _ rfl
                      have o3 : World.cell? _ ⟨bo, 3, none⟩ = some (.slice A' xb.length c') := oB.at_ 3 _ rfl
                      have o4 : World.cell? _ ⟨bo, 4, none⟩ = some (.int .i64 oi) := oB.at_ 4 _ rfl
                      have oL := oB.lt
                      clear oB
                      have bB := HX2.out.bx (b := bo + 1) (cs := [.int .i64 (n : Int), .slice Ad ms.length cd]) (by simp)
                      have b0 : World.cell? _ ⟨bo + 1, 0, none⟩ = some (.int .i64 (n : Int)) := bB.at_ 0 _ rfl
                      have b1 : World.cell? _ ⟨bo + 1, 1, none⟩ = some (.slice Ad ms.length cd) := bB.at_ 1 _ rfl
                      have bL := bB.lt
                      clear bB
                      refine (has_no (n : Int) oi Ad ms.length cd W2 hi).mono ?_
                      rintro e W3 ⟨rfl, b3⟩
                      have HX3 := Lib.hid (HX2.out.new b3)
                      clear b3
                      clear mL m0 m1
                      clear oL o0 o1 o2 o3 o4
                      clear bL b0 b1
                      have mB := HX3.out.bx (b := mb) (cs := [.int .i64 (n : Int), .slice Ad ms.length cd]) (by simp)
                      have m0 : World.cell? _ ⟨mb, 0, none⟩ = some (.int .i64 (n : Int)) := mB.at_ 0 _ rfl
                      have m1 : World.cell? _ ⟨mb, 1, none⟩ = some (.slice Ad ms.length cd) := mB.at_ 1 _ rfl
                      have mL := mB.lt
                      clear mB
                      have oB := HX3.out.bx (b := bo) (cs := [.int .i64 2, .int .i64 xf, .int .i64 xt, .slice A' xb.length c', .int .i64 oi]) (by simp)
                      have o0 : World.cell? _ ⟨bo, 0, none⟩ = some (.int .i64 2) := oB.at_ 0 _ rfl
                      have o1 : World.cell? _ ⟨bo, 1, none⟩ = some (.int .i64 xf) := oB.at_ 1 _ rfl
                      have o2 : World.cell? _ ⟨bo, 2, none⟩ = some (.int .i64 xt) := oB.at_ 2 _ rfl
                      have o3 : World.cell? _ ⟨bo, 3, none⟩ = some (.slice A' xb.length c') := oB.at_ 3 _ rfl
                      have o4 : World.cell? _ ⟨bo, 4, none⟩ = some (.int .i64 oi) := oB.at_ 4 _ rfl
                      have oL := oB.lt
                      clear oB
                      have bB := HX3.out.bx (b := bo + 1) (cs := [.int .i64 (n : Int), .slice Ad ms.length cd]) (by simp)
                      have b0 : World.cell? _ ⟨bo + 1, 0, none⟩ = some (.int .i64 (n : Int)) := bB.at_ 0 _ rfl
                      have b1 : World.cell? _ ⟨bo + 1, 1, none⟩ = some (.slice Ad ms.length cd) := bB.at_ 1 _ rfl
                      have bL := bB.lt
                      clear bB
                      go_wp2_with fail
                      refine (HX3.out.miss hi).2.2.mono ?_
                      rintro e W4 ⟨rfl, X4⟩
                      clear mL m0 m1
                      clear oL o0 o1 o2 o3 o4
                      clear bL b0 b1
                      have mB := X4.bx (b := mb) (cs := [.int .i64 (n : Int), .slice Ad ms.length cd]) (by simp)
                      have m0 : World.cell? _ ⟨mb, 0, none⟩ = some (.int .i64 (n : Int)) := mB.at_ 0 _ rfl
                      have m1 : World.cell? _ ⟨mb, 1, none⟩ = some (.slice Ad ms.length cd) := mB.at_ 1 _ rfl
                      have mL := mB.lt
                      have mf := mB.fr
                      clear mB
                      have bB := X4.bx (b := bo + 1) (cs := [.int .i64 (n : Int), .slice Ad ms.length cd]) (by simp)
                      have b0 : World.cell? _ ⟨bo + 1, 0, none⟩ = some (.int .i64 (n : Int)) := bB.at_ 0 _ rfl
                      have b1 : World.cell? _ ⟨bo + 1, 1, none⟩ = some (.slice Ad ms.length cd) := bB.at_ 1 _ rfl
                      have bL := bB.lt
                      clear bB
                      have hmbz := X4.z
                      have X5 := (X4.sub (L' := [(mb, [.int .i64 (n : Int), .slice Ad ms.length cd])]) (LB' := []) (by intro z hz; simp at hz ⊢; simp [hz]) (by intro y hy; simp at hy)).put (by intro z hz; simp at hz) hmb (.int .i64 (n : Int)) (.slice Ad ms.length cd)
                      have HX5 := Lib.hid X5
                      clear X4 X5
                      go_wp2_with fail
                      have X9 := HX5.out
                      refine (X9.same (n : Int) HS.out hn).mono ?_
                      rintro e w8 ⟨rfl, X8⟩
                      have HX8 := Lib.hid X8
                      clear X8 X9
                      go_wp2_with fail
                      go_roundw
                      case rel => exact ⟨k + 1, Ad, cd, ms, by omega, by simp, HX8.out.sub (by intro z hz; simp at hz ⊢; simp [hz]) (by intro y hy; simp at hy), HS.out⟩
                      case measure => simp [intOf]; omega
                  · obtain ⟨i, rfl, hil⟩ : ∃ i : Nat, oi = (i : Int) ∧ i < ms.length := ⟨oi.toNat, by omega, by omega⟩
                    have hxi : ms[i]? = some ms[i] := List.getElem?_eq_getElem hil
                    have hyl := HS.out ms[i] (List.getElem_mem hil)
                    generalize ms[i] = y at *
                    obtain ⟨yf, yt, yb⟩ := y
                    simp only at hyl
                    by_cases hfull : n ≤ ms.length
                    · have hr0 : n ≤ ms.length := hfull
                      have hmbo := mL
                      have X2 := HX1.out.box #[.int .i64 (n : Int), .slice Ad ms.length cd] 30
                      rw [show (wr.alloc (.cells #[.int .i64 2, .int .i64 xf, .int .i64 xt, .slice A' xb.length c', .int .i64 (i : Int)] 35)).heap.size = wr.heap.size + 1 by simp] at X2
                      have HX2 := Lib.hid X2
                      clear X2
                      go_wp2_with fail
                      generalize (wr.alloc (.cells #[.int .i64 2, .int .i64 xf, .int .i64 xt, .slice A' xb.length c', .int .i64 (i : Int)] 35)).alloc (.cells #[.int .i64 (n : Int), .slice Ad ms.length cd] 30) = W2 at *
                      generalize wr.heap.size = bo at *
                      clear m0 m1 mL c0 c1 c2 c3 c4 hadr HX1
                      have hmn : mb ≠ bo + 1 := by omega
                      have hon : bo ≠ bo + 1 := by omega
                      have mB := HX2.out.bx (b := mb) (cs := [.int .i64 (n : Int), .slice Ad ms.length cd]) (by simp)
                      have m0 : World.cell? _ ⟨mb, 0, none⟩ = some (.int .i64 (n : Int)) := mB.at_ 0 _ rfl
                      have m1 : World.cell? _ ⟨mb, 1, none⟩ = some (.slice Ad ms.length cd) := mB.at_ 1 _ rfl
                      have mL := mB.lt
                      clear mB
                      have oB := HX2.out.bx (b := bo) (cs := [.int .i64 2, .int .i64 xf, .int .i64 xt, .slice A' xb.length c', .int .i64 (i : Int)]) (by simp)
                      have o0 : World.cell? _ ⟨bo, 0, none⟩ = some (.int .i64 2) := oB.at_ 0 _ rfl
                      have o1 : World.cell? _ ⟨bo, 1, none⟩ = some (.int .i64 xf) := oB.at_ 1 _ rfl
                      have o2 : World.cell? _ ⟨bo, 2, none⟩ = some (.int .i64 xt) := oB.at_ 2 _ rfl
                      have o3 : World.cell? _ ⟨bo, 3, none⟩ = some (.slice A' xb.length c') := oB.at_ 3 _ rfl
                      have o4 : World.cell? _ ⟨bo, 4, none⟩ = some (.int .i64 (i : Int)) := oB.at_ 4 _ rfl
                      have oL := oB.lt
                      clear oB
                      have bB := HX2.out.bx (b := bo + 1) (cs := [.int .i64 (n : Int), .slice Ad ms.length cd]) (by simp)
                      have b0 : World.cell? _ ⟨bo + 1, 0, none⟩ = some (.int .i64 (n : Int)) := bB.at_ 0 _ rfl
                      have b1 : World.cell? _ ⟨bo + 1, 1, none⟩ = some (.slice Ad ms.length cd) := bB.at_ 1 _ rfl
                      have bL := bB.lt
                      clear bB
                      refine (has_yes (n : Int) i Ad ms.length cd W2 (by omega)).mono ?_
                      rintro e W3 ⟨rfl, b3⟩
                      have HX3 := Lib.hid (HX2.out.new b3)
                      clear b3
                      clear mL m0 m1
                      clear oL o0 o1 o2 o3 o4
                      clear bL b0 b1
                      have mB := HX3.out.bx (b := mb) (cs := [.int .i64 (n : Int), .slice Ad ms.length cd]) (by simp)
                      have m0 : World.cell? _ ⟨mb, 0, none⟩ = some (.int .i64 (n : Int)) := mB.at_ 0 _ rfl
                      have m1 : World.cell? _ ⟨mb, 1, none⟩ = some (.slice Ad ms.length cd) := mB.at_ 1 _ rfl
                      have mL := mB.lt
                      clear mB
                      have oB := HX3.out.bx (b := bo) (cs := [.int .i64 2, .int .i64 xf, .int .i64 xt, .slice A' xb.length c', .int .i64 (i : Int)]) (by simp)
                      have o0 : World.cell? _ ⟨bo, 0, none⟩ = some (.int .i64 2) := oB.at_ 0 _ rfl
                      have o1 : World.cell? _ ⟨bo, 1, none⟩ = some (.int .i64 xf) := oB.at_ 1 _ rfl
                      have o2 : World.cell? _ ⟨bo, 2, none⟩ = some (.int .i64 xt) := oB.at_ 2 _ rfl
                      have o3 : World.cell? _ ⟨bo, 3, none⟩ = some (.slice A' xb.length c') := oB.at_ 3 _ rfl
                      have o4 : World.cell? _ ⟨bo, 4, none⟩ = some (.int .i64 (i : Int)) := oB.at_ 4 _ rfl
                      have oL := oB.lt
                      clear oB
                      have bB := HX3.out.bx (b := bo + 1) (cs := [.int .i64 (n : Int), .slice Ad ms.length cd]) (by simp)
                      have b0 : World.cell? _ ⟨bo + 1, 0, none⟩ = some (.int .i64 (n : Int)) := bB.at_ 0 _ rfl
                      have b1 : World.cell? _ ⟨bo + 1, 1, none⟩ = some (.slice Ad ms.length cd) := bB.at_ 1 _ rfl
                      have bL := bB.lt
                      have bf := bB.fr
                      clear bB
                      obtain ⟨da, dA, dc, rfl, hdab, d0, d1, d2, hdbs⟩ := HX3.out.get hxi
                      simp only at d0 d1 d2 hdbs
                      have HD := Lib.hid hdbs
                      have hdc := hdbs.le
                      have hdm := hdbs.max
                      unfold maxLen at hdm
                      clear hdbs
                      go_upto_region 40 with fail
                      go_cut [17] (fun v wx => v = .int .i64 4 ∧ St8 w wx (w.heap.size + 1) w.heap.size n ms (some da) cd ms [(bo + 1, [.int .i64 (n : Int), .slice (some da) ms.length cd]), (mb, [.int .i64 (n : Int), .slice (some da) ms.length cd]), (bo, [.int .i64 2, .int .i64 xf, .int .i64 xt, .slice A' xb.length c', .int .i64 (i : Int)])] [])
                      case first =>
                        go_wp2_with fail
                        go_region_law (first
                          | (go_simp; go_at_call 7; go_loud (refine (dsend_full (n : Int) yf yt (some da) dA ms.length cd yb.length dc (by omega) (by omega) W3.drew).mono ?_; rintro e W4 ⟨rfl, b4⟩; have X4 := (HX3.out.new (below_drew _ _)).new b4; have HX4 := Lib.hid X4; have vB := X4.bx (b := mb) (cs := [.int .i64 (n : Int), .slice (some da) ms.length cd]) (by simp); have v0 : World.cell? _ ⟨mb, 0, none⟩ = some (.int .i64 (n : Int)) := vB.at_ 0 _ rfl; have v1 : World.cell? _ ⟨mb, 1, none⟩ = some (.slice (some da) ms.length cd) := vB.at_ 1 _ rfl; have vL := vB.lt; clear vB; have uB := X4.bx (b := bo + 1) (cs := [.int .i64 (n : Int), .slice (some da) ms.length cd]) (by simp); have u0 : World.cell? _ ⟨bo + 1, 0, none⟩ = some (.int .i64 (n : Int)) := uB.at_ 0 _ rfl; have u1 : World.cell? _ ⟨bo + 1, 1, none⟩ = some (.slice (some da) ms.length cd) := uB.at_ 1 _ rfl; have uL := uB.lt; have uf := uB.fr; clear uB; have tB := X4.bx (b := bo) (cs := [.int .i64 2, .int .i64 xf, .int .i64 xt, .slice A' xb.length c', .int .i64 (i : Int)]) (by simp); have t0 : World.cell? _ ⟨bo, 0, none⟩ = some (.int .i64 2) := tB.at_ 0 _ rfl; have t1 : World.cell? _ ⟨bo, 1, none⟩ = some (.int .i64 xf) := tB.at_ 1 _ rfl; have t2 : World.cell? _ ⟨bo, 2, none⟩ = some (.int .i64 xt) := tB.at_ 2 _ rfl; have t3 : World.cell? _ ⟨bo, 3, none⟩ = some (.slice A' xb.length c') := tB.at_ 3 _ rfl; have t4 : World.cell? _ ⟨bo, 4, none⟩ = some (.int .i64 (i : Int)) := tB.at_ 4 _ rfl; have tL := tB.lt; clear tB; clear X4)))
                        all_goals
                          have X5 := (HX4.out.sub (L' := [(bo + 1, [.int .i64 (n : Int), .slice (some da) ms.length cd]), (mb, [.int .i64 (n : Int), .slice (some da) ms.length cd]), (bo, [.int .i64 2, .int .i64 xf, .int .i64 xt, .slice A' xb.length c', .int .i64 (i : Int)])]) (LB' := []) (by intro z hz; simp at hz ⊢; rcases hz with rfl | rfl | rfl <;> simp) (by intro y hy; simp at hy)).put (by intro z hz; simp at hz; rcases hz with rfl | rfl <;> simp <;> omega) (by omega) (.int .i64 (n : Int)) (.slice (some da) ms.length cd)
                          have HX5 := Lib.hid X5
                          clear X5
                          go_wp2_with fail
                          go_meet
                          exact ⟨rfl, HX5.out⟩
                      case rest =>
                        obtain ⟨rfl, X5⟩ := hcut
                        clear m0 m1 mL b0 b1 bL bf o0 o1 o2 o3 o4 oL d0 d1 d2
                        have oB := X5.bx (b := bo) (cs := [.int .i64 2, .int .i64 xf, .int .i64 xt, .slice A' xb.length c', .int .i64 (i : Int)]) (by simp)
                        have o0 : World.cell? _ ⟨bo, 0, none⟩ = some (.int .i64 2) := oB.at_ 0 _ rfl
                        have o1 : World.cell? _ ⟨bo, 1, none⟩ = some (.int .i64 xf) := oB.at_ 1 _ rfl
                        have o2 : World.cell? _ ⟨bo, 2, none⟩ = some (.int .i64 xt) := oB.at_ 2 _ rfl
                        have o3 : World.cell? _ ⟨bo, 3, none⟩ = some (.slice A' xb.length c') := oB.at_ 3 _ rfl
                        have o4 : World.cell? _ ⟨bo, 4, none⟩ = some (.int .i64 (i : Int)) := oB.at_ 4 _ rfl
                        have oL := oB.lt
                        clear oB
                        have HX5 := Lib.hid X5
                        clear X5
                        go_wp2_with fail
                        refine (HX5.out.copyFull hr0 hil).mono ?_
                        rintro e W6 ⟨rfl, X6⟩
                        clear oL o0 o1 o2 o3 o4
                        have mB := X6.bx (b := mb) (cs := [.int .i64 (n : Int), .slice (some da) ms.length cd]) (by simp)
                        have m0 : World.cell? _ ⟨mb, 0, none⟩ = some (.int .i64 (n : Int)) := mB.at_ 0 _ rfl
                        have m1 : World.cell? _ ⟨mb, 1, none⟩ = some (.slice (some da) ms.length cd) := mB.at_ 1 _ rfl
                        have mL := mB.lt
                        have mf := mB.fr
                        clear mB
                        have bB := X6.bx (b := bo + 1) (cs := [.int .i64 (n : Int), .slice (some da) ms.length cd]) (by simp)
                        have b0 : World.cell? _ ⟨bo + 1, 0, none⟩ = some (.int .i64 (n : Int)) := bB.at_ 0 _ rfl
                        have b1 : World.cell? _ ⟨bo + 1, 1, none⟩ = some (.slice (some da) ms.length cd) := bB.at_ 1 _ rfl
                        have bL := bB.lt
                        clear bB
                        have X7 := (X6.sub (L' := [(mb, [.int .i64 (n : Int), .slice (some da) ms.length cd])]) (LB' := []) (by intro z hz; simp at hz ⊢; simp [hz]) (by intro y hy; simp at hy)).put (by intro z hz; simp at hz) hmb (.int .i64 (n : Int)) (.slice (some da) ms.length cd)
                        have HX7 := Lib.hid X7
                        clear X6 X7
                        go_wp2_with fail
                        have X9 := HX7.out
                        refine (X9.same (n : Int) HS.out hn).mono ?_
                        rintro e w8 ⟨rfl, X8⟩
                        have HX8 := Lib.hid X8
                        clear X8 X9
                        go_wp2_with fail
                        go_roundw
                        case rel => exact ⟨k + 1, some da, cd, ms, by omega, by simp, HX8.out.sub (by intro z hz; simp at hz ⊢; simp [hz]) (by intro y hy; simp at hy), HS.out⟩
                        case measure => simp [intOf]; omega
                    · have hr0 : ms.length < n := by omega
                      have hmbo := mL
                      have X2 := HX1.out.box #[.int .i64 (n : Int), .slice Ad ms.length cd] 30
                      rw [show (wr.alloc (.cells #[.int .i64 2, .int .i64 xf, .int .i64 xt, .slice A' xb.length c', .int .i64 (i : Int)] 35)).heap.size = wr.heap.size + 1 by simp] at X2
                      have HX2 := Lib.hid X2
                      clear X2
                      go_wp2_with fail
                      generalize (wr.alloc (.cells #[.int .i64 2, .int .i64 xf, .int .i64 xt, .slice A' xb.length c', .int .i64 (i : Int)] 35)).alloc (.cells #[.int .i64 (n : Int), .slice Ad ms.length cd] 30) = W2 at *
                      generalize wr.heap.size = bo at *
                      clear m0 m1 mL c0 c1 c2 c3 c4 hadr HX1
                      have hmn : mb ≠ bo + 1 := by omega
                      have hon : bo ≠ bo + 1 := by omega
                      have mB := HX2.out.bx (b := mb) (cs := [.int .i64 (n : Int), .slice Ad ms.length cd]) (by simp)
                      have m0 : World.cell? _ ⟨mb, 0, none⟩ = some (.int .i64 (n : Int)) := mB.at_ 0 _ rfl
                      have m1 : World.cell? _ ⟨mb, 1, none⟩ = some (.slice Ad ms.length cd) := mB.at_ 1 _ rfl
                      have mL := mB.lt
                      clear mB
                      have oB := HX2.out.bx (b := bo) (cs := [.int .i64 2, .int .i64 xf, .int .i64 xt, .slice A' xb.length c', .int .i64 (i : Int)]) (by simp)
                      have o0 : World.cell? _ ⟨bo, 0, none⟩ = some (.int .i64 2) := oB.at_ 0 _ rfl
                      have o1 : World.cell? _ ⟨bo, 1, none⟩ = some (.int .i64 xf) := oB.at_ 1 _ rfl
                      have o2 : World.cell? _ ⟨bo, 2, none⟩ = some (.int .i64 xt) := oB.at_ 2 _ rfl
                      have o3 : World.cell? _ ⟨bo, 3, none⟩ = some (.slice A' xb.length c') := oB.at_ 3 _ rfl
                      have o4 : World.cell? _ ⟨bo, 4, none⟩ = some (.int .i64 (i : Int)) := oB.at_ 4 _ rfl
                      have oL := oB.lt
                      clear oB
                      have bB := HX2.out.bx (b := bo + 1) (cs := [.int .i64 (n : Int), .slice Ad ms.length cd]) (by simp)
                      have b0 : World.cell? _ ⟨bo + 1, 0, none⟩ = some (.int .i64 (n : Int)) := bB.at_ 0 _ rfl
                      have b1 : World.cell? _ ⟨bo + 1, 1, none⟩ = some (.slice Ad ms.length cd) := bB.at_ 1 _ rfl
                      have bL := bB.lt
                      clear bB
                      refine (has_yes (n : Int) i Ad ms.length cd W2 (by omega)).mono ?_
                      rintro e W3 ⟨rfl, b3⟩
                      have HX3 := Lib.hid (HX2.out.new b3)
                      clear b3
                      clear mL m0 m1
                      clear oL o0 o1 o2 o3 o4
                      clear bL b0 b1
                      have mB := HX3.out.bx (b := mb) (cs := [.int .i64 (n : Int), .slice Ad ms.length cd]) (by simp)
                      have m0 : World.cell? _ ⟨mb, 0, none⟩ = some (.int .i64 (n : Int)) := mB.at_ 0 _ rfl
                      have m1 : World.cell? _ ⟨mb, 1, none⟩ = some (.slice Ad ms.length cd) := mB.at_ 1 _ rfl
                      have mL := mB.lt
                      clear mB
                      have oB := HX3.out.bx (b := bo) (cs := [.int .i64 2, .int .i64 xf, .int .i64 xt, .slice A' xb.length c', .int .i64 (i : Int)]) (by simp)
                      have o0 : World.cell? _ ⟨bo, 0, none⟩ = some (.int .i64 2) := oB.at_ 0 _ rfl
                      have o1 : World.cell? _ ⟨bo, 1, none⟩ = some (.int .i64 xf) := oB.at_ 1 _ rfl
                      have o2 : World.cell? _ ⟨bo, 2, none⟩ = some (.int .i64 xt) := oB.at_ 2 _ rfl
                      have o3 : World.cell? _ ⟨bo, 3, none⟩ = some (.slice A' xb.length c') := oB.at_ 3 _ rfl
                      have o4 : World.cell? _ ⟨bo, 4, none⟩ = some (.int .i64 (i : Int)) := oB.at_ 4 _ rfl
                      have oL := oB.lt
                      clear oB
                      have bB := HX3.out.bx (b := bo + 1) (cs := [.int .i64 (n : Int), .slice Ad ms.length cd]) (by simp)
                      have b0 : World.cell? _ ⟨bo + 1, 0, none⟩ = some (.int .i64 (n : Int)) := bB.at_ 0 _ rfl
                      have b1 : World.cell? _ ⟨bo + 1, 1, none⟩ = some (.slice Ad ms.length cd) := bB.at_ 1 _ rfl
                      have bL := bB.lt
                      have bf := bB.fr
                      clear bB
                      obtain ⟨da, dA, dc, rfl, hdab, d0, d1, d2, hdbs⟩ := HX3.out.get hxi
                      simp only at d0 d1 d2 hdbs
                      have HD := Lib.hid hdbs
                      have hdc := hdbs.le
                      have hdm := hdbs.max
                      unfold maxLen at hdm
                      clear hdbs
                      go_upto_region 40 with fail
                      go_cut [17] (fun v wx => v = .int .i64 0 ∧ ∃ ms2 A4 c4, ms2 = ms ++ [(⟨yf, yt, yb⟩ : Rm)] ∧ St8 w wx (w.heap.size + 1) w.heap.size n ms A4 c4 ms2 [(bo + 1, [.int .i64 (n : Int), .slice A4 ms2.length c4]), (mb, [.int .i64 (n : Int), .slice (some da) ms.length cd]), (bo, [.int .i64 2, .int .i64 xf, .int .i64 xt, .slice A' xb.length c', .int .i64 (i : Int)])] [])
                      case first =>
                        go_wp2_with fail
                        go_region_law (first
                          | (go_simp; go_at_call 7; go_loud (refine ((HX3.out.new (below_drew _ _)).dsend ⟨yf, yt, yb⟩ (show Bs W3.drew W3.drew.heap.size dA dc yb from HD.out.drew) (by show yb.length ≤ 1048576; omega) (by omega : (ms.length : Int) < (n : Int)) (by omega)).mono ?_; rintro e W4 ⟨A4, c4, rfl, X4⟩; generalize hms2 : ms ++ [(⟨yf, yt, yb⟩ : Rm)] = ms2 at *; have HMS := Lib.hid hms2; clear hms2; have HX4 := Lib.hid X4; have vB := X4.bx (b := mb) (cs := [.int .i64 (n : Int), .slice (some da) ms.length cd]) (by simp); have v0 : World.cell? _ ⟨mb, 0, none⟩ = some (.int .i64 (n : Int)) := vB.at_ 0 _ rfl; have v1 : World.cell? _ ⟨mb, 1, none⟩ = some (.slice (some da) ms.length cd) := vB.at_ 1 _ rfl; have vL := vB.lt; clear vB; have uB := X4.bx (b := bo + 1) (cs := [.int .i64 (n : Int), .slice (some da) ms.length cd]) (by simp); have u0 : World.cell? _ ⟨bo + 1, 0, none⟩ = some (.int .i64 (n : Int)) := uB.at_ 0 _ rfl; have u1 : World.cell? _ ⟨bo + 1, 1, none⟩ = some (.slice (some da) ms.length cd) := uB.at_ 1 _ rfl; have uL := uB.lt; have uf := uB.fr; clear uB; have tB := X4.bx (b := bo) (cs := [.int .i64 2, .int .i64 xf, .int .i64 xt, .slice A' xb.length c', .int .i64 (i : Int)]) (by simp); have t0 : World.cell? _ ⟨bo, 0, none⟩ = some (.int .i64 2) := tB.at_ 0 _ rfl; have t1 : World.cell? _ ⟨bo, 1, none⟩ = some (.int .i64 xf) := tB.at_ 1 _ rfl; have t2 : World.cell? _ ⟨bo, 2, none⟩ = some (.int .i64 xt) := tB.at_ 2 _ rfl; have t3 : World.cell? _ ⟨bo, 3, none⟩ = some (.slice A' xb.length c') := tB.at_ 3 _ rfl; have t4 : World.cell? _ ⟨bo, 4, none⟩ = some (.int .i64 (i : Int)) := tB.at_ 4 _ rfl; have tL := tB.lt; clear tB; clear X4)))
                        all_goals
                          have X5 := (HX4.out.sub (L' := [(bo + 1, [.int .i64 (n : Int), .slice (some da) ms.length cd]), (mb, [.int .i64 (n : Int), .slice (some da) ms.length cd]), (bo, [.int .i64 2, .int .i64 xf, .int .i64 xt, .slice A' xb.length c', .int .i64 (i : Int)])]) (LB' := []) (by intro z hz; simp at hz ⊢; rcases hz with rfl | rfl | rfl <;> simp) (by intro y hy; simp at hy)).put (by intro z hz; simp at hz; rcases hz with rfl | rfl <;> simp <;> omega) (by omega) (.int .i64 (n : Int)) (.slice A4 ms2.length c4)
                          have HX5 := Lib.hid X5
                          clear X5
                          go_wp2_with fail
                          go_meet
                          exact ⟨rfl, ms2, A4, c4, rfl, HX5.out⟩
                      case rest =>
                        obtain ⟨rfl, ms2, A4, c4, hms2, X5⟩ := hcut
                        clear m0 m1 mL b0 b1 bL bf o0 o1 o2 o3 o4 oL d0 d1 d2
                        have hs2 : ∀ x ∈ ms2, x.b.length ≤ 3000 := by
                          intro x hx
                          rw [hms2] at hx
                          rcases List.mem_append.1 hx with hx | hx
                          · exact HS.out x hx
                          · simp at hx; subst hx; exact hyl
                        have HMS := Lib.hid hms2
                        have HS2 := Lib.hid hs2
                        clear hms2 hs2
                        have oB := X5.bx (b := bo) (cs := [.int .i64 2, .int .i64 xf, .int .i64 xt, .slice A' xb.length c', .int .i64 (i : Int)]) (by simp)
                        have o0 : World.cell? _ ⟨bo, 0, none⟩ = some (.int .i64 2) := oB.at_ 0 _ rfl
                        have o1 : World.cell? _ ⟨bo, 1, none⟩ = some (.int .i64 xf) := oB.at_ 1 _ rfl
                        have o2 : World.cell? _ ⟨bo, 2, none⟩ = some (.int .i64 xt) := oB.at_ 2 _ rfl
                        have o3 : World.cell? _ ⟨bo, 3, none⟩ = some (.slice A' xb.length c') := oB.at_ 3 _ rfl
                        have o4 : World.cell? _ ⟨bo, 4, none⟩ = some (.int .i64 (i : Int)) := oB.at_ 4 _ rfl
                        have oL := oB.lt
                        clear oB
                        have HX5 := Lib.hid X5
                        clear X5
                        go_wp2_with fail
                        refine (HX5.out.copy hxi hr0 hn).mono ?_
                        rintro e W6 ⟨rfl, X6⟩
                        rw [← HMS.out] at X6
                        clear oL o0 o1 o2 o3 o4
                        have mB := X6.bx (b := mb) (cs := [.int .i64 (n : Int), .slice (some da) ms.length cd]) (by simp)
                        have m0 : World.cell? _ ⟨mb, 0, none⟩ = some (.int .i64 (n : Int)) := mB.at_ 0 _ rfl
                        have m1 : World.cell? _ ⟨mb, 1, none⟩ = some (.slice (some da) ms.length cd) := mB.at_ 1 _ rfl
                        have mL := mB.lt
                        have mf := mB.fr
                        clear mB
                        have bB := X6.bx (b := bo + 1) (cs := [.int .i64 (n : Int), .slice A4 ms2.length c4]) (by simp)
                        have b0 : World.cell? _ ⟨bo + 1, 0, none⟩ = some (.int .i64 (n : Int)) := bB.at_ 0 _ rfl
                        have b1 : World.cell? _ ⟨bo + 1, 1, none⟩ = some (.slice A4 ms2.length c4) := bB.at_ 1 _ rfl
                        have bL := bB.lt
                        clear bB
                        have X7 := (X6.sub (L' := [(mb, [.int .i64 (n : Int), .slice (some da) ms.length cd])]) (LB' := []) (by intro z hz; simp at hz ⊢; simp [hz]) (by intro y hy; simp at hy)).put (by intro z hz; simp at hz) hmb (.int .i64 (n : Int)) (.slice A4 ms2.length c4)
                        have HX7 := Lib.hid X7
                        clear X6 X7
                        go_wp2_with fail
                        have X9 := HX7.out
                        refine (X9.same (n : Int) HS2.out hn).mono ?_
                        rintro e w8 ⟨rfl, X8⟩
                        have HX8 := Lib.hid X8
                        clear X8 X9
                        go_wp2_with fail
                        go_roundw
                        case rel => exact ⟨k + 1, A4, c4, ms2, by omega, by simp, HX8.out.sub (by intro z hz; simp at hz ⊢; simp [hz]) (by intro y hy; simp at hy), HS2.out⟩
                        case measure => simp [intOf]; omega
                · have e2 : (kd == (2 : Int)) = false := by simpa using k2
                  have HX1 := Lib.hid (HX.out.box #[.int .i64 kd, .int .i64 xf, .int .i64 xt, .slice A' xb.length c', .int .i64 oi] 35)
                  as_aux_lemma =>
                    have hmbo := mL
                    go_wp2_with fail
                    generalize wr.alloc (.cells #[.int .i64 kd, .int .i64 xf, .int .i64 xt, .slice A' xb.length c', .int .i64 oi] 35) = W1 at *
                    generalize wr.heap.size = bo at *
                    clear m0 m1 mL c0 c1 c2 c3 c4 hadr
                    have mB := HX1.out.bx (b := mb) (cs := [.int .i64 (n : Int), .slice Ad ms.length cd]) (by simp)
                    have m0 : World.cell? _ ⟨mb, 0, none⟩ = some (.int .i64 (n : Int)) := mB.at_ 0 _ rfl
                    have m1 : World.cell? _ ⟨mb, 1, none⟩ = some (.slice Ad ms.length cd) := mB.at_ 1 _ rfl
                    have mL := mB.lt
                    clear mB
                    have oB := HX1.out.bx (b := bo) (cs := [.int .i64 kd, .int .i64 xf, .int .i64 xt, .slice A' xb.length c', .int .i64 oi]) (by simp)
                    have o0 : World.cell? _ ⟨bo, 0, none⟩ = some (.int .i64 kd) := oB.at_ 0 _ rfl
                    have o1 : World.cell? _ ⟨bo, 1, none⟩ = some (.int .i64 xf) := oB.at_ 1 _ rfl
                    have o2 : World.cell? _ ⟨bo, 2, none⟩ = some (.int .i64 xt) := oB.at_ 2 _ rfl
                    have o3 : World.cell? _ ⟨bo, 3, none⟩ = some (.slice A' xb.length c') := oB.at_ 3 _ rfl
                    have o4 : World.cell? _ ⟨bo, 4, none⟩ = some (.int .i64 oi) := oB.at_ 4 _ rfl
                    have oL := oB.lt
                    clear oB
                    have X9 := HX1.out
                    refine (X9.same (n : Int) HS.out hn).mono ?_
                    rintro e w8 ⟨rfl, X8⟩
                    have HX8 := Lib.hid X8
                    clear X8 X9
                    go_wp2_with fail
                    go_roundw
                    case rel => exact ⟨k + 1, Ad, cd, ms, by omega, by simp, HX8.out.sub (by intro z hz; simp at hz ⊢; simp [hz]) (by intro y hy; simp at hy), HS.out⟩
                    case measure => simp [intOf]; omega
    · have hkl : k = os.length := by omega
      subst hkl
      clear X hS
      go_wp2
      go_ret
      exact ⟨rfl, hB⟩
theorem pplays_all (room : Int) (A : Option Addr) (cap : Nat) (os : List Op8) (w : World) (ho : Os8 w w.heap.size A cap os) :
    Calls Try.prog 3 #[.int .i64 room, .slice A os.length cap] w fun e w' => e = .returned (.bool true) ∧ Below w.heap.size w w' := by
  by_cases h : room < 0 ∨ 4096 < room
  · exact pplays_bad room h A cap os.length w
  · obtain ⟨n, rfl, hn⟩ : ∃ n : Nat, room = (n : Int) ∧ n ≤ 4096 := ⟨room.toNat, by omega, by omega⟩
    exact pplays_any n hn A cap os w ho
end Go.Proofs.Ytejbjnjnabcleaa
