/- A relay in memory: its box, its members, its log's row, its map of acks. -/
import Derived.Test.YtpnhdocimjkakaaPn20
import Derived.Test.YtpnhdocimjkakaaPn19
import Derived.IntWalk
import Derived.LoopTactic
import Derived.Deep.QuietTactic
import Derived.BigQuiet
import Derived.Test.YtpnhdocimjkakaaPn10
import Derived.Test.YtpnhdocimjkakaaPn9
import Derived.Maps.OwnSet
namespace Go.Proofs.Ytpnhdocimjkakaa
open Go.RowKit Go.BigFrame

variable {K9 : Nat}

/-- The document's reader at block b: its bytes, the place, the error. -/
structure Mr (K9 : Nat) (w : World) (b : Nat) (B : List UInt8) (a : Nat) (E : Int) : Prop where
  out : ∃ A cap, w.cell? ⟨b, 0, none⟩ = some (.slice A B.length cap) ∧ Bs w K9 A cap B
  c1 : w.cell? ⟨b, 1, none⟩ = some (.int .i64 (a : Int))
  c2 : w.cell? ⟨b, 2, none⟩ = some (.int .i64 E)
  fr : ∀ j, w.frozen? ⟨b, j, none⟩ = false
  le : a ≤ B.length
  kb : K9 ≤ b
section
variable {w w' : World} {b a : Nat} {B : List UInt8} {E : Int}
theorem Mr.lt (h : Mr K9 w b B a E) : b < w.heap.size := World.block_lt_of_cell? w _ h.c1
theorem Mr.tnK {P : Nat → Prop} (h : Mr K9 w b B a E) (t : Tn P w w') (hb : ¬ P b) (hk9 : ∀ k, k < K9 → ¬ P k) : Mr K9 w' b B a E := by
  obtain ⟨A, cap, h0, hs⟩ := h.out
  exact ⟨⟨A, cap, t.cell h0 hb, t.bs hs fun hl ad e => by
    obtain ⟨ad', e', hk, _⟩ := hs.at_ hl
    rw [e] at e'
    cases e'
    exact hk9 _ hk⟩, t.cell h.c1 hb, t.cell h.c2 hb, fun j => (t.frozen (p := ⟨b, j, none⟩) h.lt hb).trans (h.fr j), h.le, h.kb⟩
theorem Mr.tn {P : Nat → Prop} (h : Mr K9 w b B a E) (t : Tn P w w') (hb : ∀ k, k ≤ b → ¬ P k) : Mr K9 w' b B a E :=
  h.tnK t (hb b (Nat.le_refl _)) fun k hk => hb k (by have := h.kb; omega)
theorem Mr.below (h : Mr K9 w b B a E) (hb : Below w.heap.size w w') : Mr K9 w' b B a E := h.tn (Tn.ofNew (P := fun _ => False) hb) fun _ _ => id
theorem Mr.drewN (h : Mr K9 w b B a E) (n : Nat) : Mr K9 (w.drewN n) b B a E := h.below ⟨rfl, rfl, rfl, Nat.le_refl _, fun _ _ => rfl⟩
theorem Mr.err (h : Mr K9 w b B a E) (x : Int) : Mr K9 (w.setCell ⟨b, 2, none⟩ (.int .i64 x)) b B a x := by
  obtain ⟨A, cap, h0, hs⟩ := h.out
  exact ⟨⟨A, cap, (World.cell?_setCell_other _ _ _ _ (by simp)).trans h0, hs.keep fun p hp => World.cell?_setCell_other _ _ _ _ (by intro e; subst e; have := h.kb; simp at hp; omega)⟩, (World.cell?_setCell_other _ _ _ _ (by simp)).trans h.c1, World.cell?_setCell_same' _ _ _ (by rw [h.c2]; rfl), fun j => by rw [World.frozen?_setCell]; exact h.fr j, h.le, h.kb⟩
theorem Mr.at_ (h : Mr K9 w b B a E) {x : Nat} (hx : x ≤ B.length) : Mr K9 (w.setCell ⟨b, 1, none⟩ (.int .i64 (x : Int))) b B x E := by
  obtain ⟨A, cap, h0, hs⟩ := h.out
  exact ⟨⟨A, cap, (World.cell?_setCell_other _ _ _ _ (by simp)).trans h0, hs.keep fun p hp => World.cell?_setCell_other _ _ _ _ (by intro e; subst e; have := h.kb; simp at hp; omega)⟩, World.cell?_setCell_same' _ _ _ (by rw [h.c1]; rfl), (World.cell?_setCell_other _ _ _ _ (by simp)).trans h.c2, fun j => by rw [World.frozen?_setCell]; exact h.fr j, hx, h.kb⟩
end
theorem Mr.atI {w : World} {b a : Nat} {B : List UInt8} {E : Int} (h : Mr K9 w b B a E) {x : Nat} {v : Int} (hx : x ≤ B.length) (hv : v = (x : Int)) : Mr K9 (w.setCell ⟨b, 1, none⟩ (.int .i64 v)) b B x E := by
  subst hv
  exact h.at_ hx
/-- What the document's reader's method did. -/
structure Mt (K9 : Nat) (w : World) (b : Nat) (B : List UInt8) (r : Nat × List UInt8 × Int) (w' : World) : Prop where
  out : ∃ a', Mr K9 w' b B a' r.2.2 ∧ (r.2.2 = 0 → B.drop a' = r.2.1)
  tn : Tn (· = b) w w'
def MnumP (K9 : Nat) (w : World) (b : Nat) (B : List UInt8) (r : Nat × List UInt8 × Int) (en : Ending) (w' : World) : Prop := en = .returned (.int .u64 (r.1 : Int)) ∧ Mt K9 w b B r w'
theorem TnN {P : Nat → Prop} (w : World) (n : Nat) : Tn P w (w.drewN n) := ⟨rfl, rfl, rfl, Nat.le_refl _, fun _ _ _ => rfl⟩
set_option maxRecDepth 100000 in
set_option maxHeartbeats 3200000 in
theorem mtake_any (b a : Nat) (B : List UInt8) (E : Int) (w : World) (h : Mr K9 w b B a E) :
    Calls Try.prog 97 #[.pointer (some ⟨b, 0, none⟩)] w (MnumP K9 w b B (nuR (B.drop a) E)) := by
  obtain ⟨A, cap, h0, hs⟩ := h.out
  have h1 := h.c1
  have h2 := h.c2
  have f2 := h.fr 2
  have f1 := h.fr 1
  have hle := h.le
  have hlc := hs.le
  have hmx := hs.max
  unfold maxLen at hmx
  have HX := Lib.hid h
  have HS := Lib.hid hs
  clear h hs
  by_cases he : E ≠ 0
  · have HN := Lib.hid (nuR_err (l := B.drop a) he)
    have hne : (E != 0) = true := by simpa using he
    have heq : (E == 0) = false := by simpa using he
    have HE := Lib.hid he
    clear he
    go_enter Try.func97, Try.ntmps97
    go_wp2
    go_ret
    refine ⟨by rw [HN.out]; rfl, ?_⟩
    rw [HN.out]
    exact ⟨⟨a, HX.out, fun e => absurd e HE.out⟩, Tn.refl _ _⟩
  · obtain rfl : E = 0 := by omega
    clear he
    by_cases hal : B.length ≤ a
    · have HN : Hid (nuR (B.drop a) 0 = (0, [], 9)) := Lib.hid (by rw [List.drop_eq_nil_of_le hal]; simp [nuR])
      have da : decide ((B.length : Int) ≤ (a : Int)) = true := by simp; omega
      have da' : decide (B.length ≤ a) = true := by simp; omega
      clear hal
      go_enter Try.func97, Try.ntmps97
      go_wp2_with fail
      go_quiet (fail)
      go_wp2_with fail
      go_ret
      refine ⟨by rw [HN.out]; rfl, ?_⟩
      rw [HN.out]
      exact ⟨⟨a, (HX.out.drewN _).err 9, fun e => absurd e (by decide)⟩, (TnN _ _).then (Tn.setCell _ _ _ _)⟩
    · have hlt : a < B.length := by omega
      obtain ⟨ad, rfl, hadK, hc⟩ := HS.out.get hlt
      have da : decide ((B.length : Int) ≤ (a : Int)) = false := by simp; omega
      have da' : decide (B.length ≤ a) = false := by simp; omega
      have ha0 : (0 : Int) ≤ (a : Int) := by omega
      have haI : (a : Int) < (B.length : Int) := by omega
      have HD : Hid (B.drop a = B[a] :: B.drop (a + 1)) := Lib.hid (List.drop_eq_getElem_cons hlt)
      have hx8 : (B[a]).toNat < 256 := (B[a]).toNat_lt
      have HLR : Hid ((B.drop (a + 1)).length = B.length - (a + 1)) := Lib.hid List.length_drop
      generalize hxx : B[a] = x at *
      clear hxx hal
      by_cases hx : x.toNat ≤ 247
      · have HN : Hid (nuR (B.drop a) 0 = (x.toNat, B.drop (a + 1), 0)) := Lib.hid (by rw [HD.out]; simp [nuR, hx])
        have dx : decide ((x.toNat : Int) < 248) = true := by simp; omega
        have wa : IntKind.i64.wrap ((a : Int) + 1) = ((a + 1 : Nat) : Int) := (IntWalk.i64_in _ (by omega)).trans (by omega)
        have HWA := Lib.hid wa
        clear hx wa
        go_enter Try.func97, Try.ntmps97
        go_wp2_with fail
        go_quiet (fail)
        go_wp2_with fail
        go_quiet (fail)
        go_wp2_with fail
        go_ret
        refine ⟨by rw [HN.out]; rfl, ?_⟩
        rw [HN.out]
        exact ⟨⟨a + 1, (HX.out.drewN _).atI (by omega) (by omega), fun _ => rfl⟩, (TnN _ _).then (Tn.setCell _ _ _ _)⟩
      · obtain ⟨k, hk⟩ : ∃ k, x.toNat = 247 + k := ⟨x.toNat - 247, by omega⟩
        have hk0 : 0 < k := by omega
        have hk8 : k ≤ 8 := by omega
        have hsub : x.toNat - 247 = k := by omega
        rw [hk] at hc
        have dx : decide ((247 : Int) + (k : Int) < 248) = false := by simp; omega
        have wk : (247 : Int) + (k : Int) - 247 = (k : Int) := by omega
        have HWK : Hid (IntKind.i64.wrap ((247 : Int) + (k : Int) - 247) = (k : Int)) := Lib.hid (by rw [wk]; exact IntWalk.i64_in _ (by omega))
        clear wk
        by_cases hshort : B.length - (a + 1) < k
        · have HN : Hid (nuR (B.drop a) 0 = (0, B.drop (a + 1), 9)) := Lib.hid (by rw [HD.out]; simp [nuR, hx, hsub]; omega)
          have ws : IntKind.i64.wrap ((B.length : Int) - (a : Int)) = (B.length : Int) - (a : Int) := IntWalk.i64_in _ (by omega)
          have ws2 : IntKind.i64.wrap ((B.length : Int) - (a : Int) - 1) = (B.length : Int) - (a : Int) - 1 := IntWalk.i64_in _ (by omega)
          have dsh : decide ((B.length : Int) - (a : Int) - 1 < (k : Int)) = true := by simp; omega
          have HW1 := Lib.hid ws
          have HW2 := Lib.hid ws2
          clear hx hsub hshort ws ws2
          go_enter Try.func97, Try.ntmps97
          go_wp2_with fail
          go_quiet (fail)
          go_wp2_with fail
          go_quiet (fail)
          go_wp2_with fail
          have ek : (247 : Int) + (k : Int) - 247 = k := by omega
          rw [ek]
          clear ek
          have ws := HW1.out
          have ws2 := HW2.out
          go_quiet (fail)
          clear ws ws2
          go_wp2_with fail
          go_ret
          refine ⟨by rw [HN.out]; rfl, ?_⟩
          rw [HN.out]
          exact ⟨⟨a, (HX.out.drewN _).err 9, fun e => absurd e (by simp)⟩, (TnN _ _).then (Tn.setCell _ _ _ _)⟩
        · have HN : Hid (nuR (B.drop a) 0 = if kN (cutN B (a + 1) k) ≠ k then (0, B.drop (a + 1 + k), 10) else (cutN B (a + 1) k, B.drop (a + 1 + k), 0)) := Lib.hid (by
            have hs9 : ¬ (B.drop (a + 1)).length < k := by rw [HLR.out]; exact hshort
            rw [HD.out]
            unfold nuR
            rw [if_neg (by decide)]
            simp only [hsub]
            rw [if_neg hx, if_neg hs9, List.drop_drop]
            rfl)
          have ws : IntKind.i64.wrap ((B.length : Int) - (a : Int)) = (B.length : Int) - (a : Int) := IntWalk.i64_in _ (by omega)
          have ws2 : IntKind.i64.wrap ((B.length : Int) - (a : Int) - 1) = (B.length : Int) - (a : Int) - 1 := IntWalk.i64_in _ (by omega)
          have dsh : decide ((B.length : Int) - (a : Int) - 1 < (k : Int)) = false := by simp; omega
          have HW1 := Lib.hid ws
          have HW2 := Lib.hid ws2
          have hfit : a + 1 + k ≤ B.length := by omega
          clear hx hsub hshort ws ws2
          go_enter Try.func97, Try.ntmps97
          go_wp2_with fail
          go_quiet (fail)
          go_wp2_with fail
          go_quiet (fail)
          go_wp2_with fail
          have ek : (247 : Int) + (k : Int) - 247 = k := by omega
          rw [ek]
          clear ek
          have ws := HW1.out
          have ws2 := HW2.out
          go_quiet (fail)
          clear ws ws2
          go_wp2_with fail
          have hcut0 : cutN B (a + 1) 0 = 0 := cutN_zero _ _
          have HC0 := Lib.hid hcut0
          clear hcut0
          go_loopw [5, 6] (fun nv iv wr => ∃ (i m : Nat), 1 ≤ i ∧ i ≤ k + 1 ∧ nv = .int .u64 ((cutN B (a + 1) (i - 1) : Nat) : Int) ∧ iv = .int .i64 (i : Int) ∧ wr = w.drewN m) (fun _ iv _ => k + 1 - (intOf iv).toNat)
          case atStart => exact ⟨1, _, by omega, by omega, by rw [show 1 - 1 = 0 from rfl, HC0.out]; rfl, by rfl, by first | rfl | exact World.drewN_drewN _ _ _ | simp only [World.drewN_drewN]⟩
          case round =>
            obtain ⟨i, m, hi1, hi2, rfl, rfl, rfl⟩ := hrel
            by_cases hik : i ≤ k
            · obtain ⟨ad2, e2, _, hci⟩ := HS.out.get (k := a + i) (by omega)
              cases e2
              have hb8 : (B[a + i]'(by omega)).toNat < 256 := (B[a + i]'(by omega)).toNat_lt
              have hx7 : cutN B (a + 1) (i - 1) < 72057594037927936 := Nat.lt_of_lt_of_le (cutN_lt B (a + 1) (i - 1)) (Nat.le_trans (Nat.pow_le_pow_right (by decide) (show i - 1 ≤ 7 by omega)) (by decide))
              have hn : cutN B (a + 1) i = cutN B (a + 1) (i - 1) * 256 + (B[a + i]'(by omega)).toNat := by
                obtain ⟨j, rfl⟩ : ∃ j, i = j + 1 := ⟨i - 1, by omega⟩
                have h9 := cutN_succ (l := B) (o := a + 1) (j := j) (by omega)
                have e4 : a + 1 + j = a + (j + 1) := by omega
                simp only [e4] at h9
                exact h9
              have HNX := Lib.hid hn
              have iw : IntKind.i64.wrap ((a : Int) + (i : Int)) = (a : Int) + (i : Int) := IntWalk.i64_in _ (by omega)
              have i0 : (0 : Int) ≤ (a : Int) + (i : Int) := by omega
              have i1 : (a : Int) + (i : Int) < (B.length : Int) := by omega
              have it : ((a : Int) + (i : Int)).toNat = a + i := by omega
              have hle9 : decide ((i : Int) ≤ (k : Int)) = true := by simp; omega
              clear hn
              generalize cutN B (a + 1) (i - 1) = X at *
              generalize (B[a + i]'(by omega)).toNat = c at *
              have mw1 : IntKind.u64.wrap ((X : Int) * 256) = (X : Int) * 256 := by rw [IntKind.wrap_u64]; omega
              have mw2 : IntKind.u64.wrap ((X : Int) * 256 + (c : Int)) = (X : Int) * 256 + (c : Int) := by rw [IntKind.wrap_u64]; omega
              have m0 : (0 : Int) ≤ (X : Int) * 256 := by omega
              go_wp2_with fail
              go_quiet (fail)
              clear iw it mw1 mw2
              go_wp2_with fail
              go_roundw
              case rel => exact ⟨i + 1, _, by omega, by omega, by rw [show i + 1 - 1 = i from by omega, HNX.out]; first | rfl | (push_cast; rfl), by go_num, rfl⟩
              case measure => simp [intOf]; omega
            · obtain rfl : i = k + 1 := by omega
              have hle9 : decide (((k + 1 : Nat) : Int) ≤ (k : Int)) = false := by simp; omega
              have e5 : k + 1 - 1 = k := by omega
              rw [e5]
              have hN64 : cutN B (a + 1) k ≤ 18446744073709551615 := by have := Nat.lt_of_lt_of_le (cutN_lt B (a + 1) k) (Nat.pow_le_pow_right (by decide) hk8); have h9 : (256 : Nat) ^ 8 = 18446744073709551616 := (by decide); omega
              clear e5
              generalize hNN : cutN B (a + 1) k = N at *
              clear hNN
              have hml := numB_length N
              obtain ⟨m9, hm9⟩ : ∃ m9, m9 = numB N := ⟨_, rfl⟩
              rw [← hm9] at hml
              have HNM : Hid (∀ W, Calls Try.prog 114 #[.slice none 0 0, .int .u64 (N : Int)] W (App W W.heap.size (.slice none 0 0) m9)) := Lib.hid (fun W => by rw [hm9]; exact refNum_any N hN64 W.heap.size none 0 0 [] W (Ob.empty _ _) (Nat.le_refl _) (by simp))
              have HML := Lib.hid hml
              have hkN := kN_le N
              clear hm9 hml
              go_wp2_with fail
              go_at_call 114
              refine (HNM.out _).mono ?_
              rintro en w2 ⟨A9, c9, rfl, ho9, hg9⟩
              have hb9 : Below w.heap.size w w2 := (show Below w.heap.size w (w.drewN m) from ⟨rfl, rfl, rfl, Nat.le_refl _, fun _ _ => rfl⟩).trans hg9.belowNil
              have HX2 := Lib.hid (HX.out.below hb9)
              have HB9 := Lib.hid hb9
              have y1 := HX2.out.c1
              have y2 := HX2.out.c2
              have yf1 := HX2.out.fr 1
              have yf2 := HX2.out.fr 2
              clear ho9 hg9 hb9
              by_cases hkk : kN N = k
              · have dl : ((m9.length : Int) != (k : Int) + 1) = false := by have h9 := HML.out; simp; omega
                have HN2 : Hid (nuR (B.drop a) 0 = (N, B.drop (a + 1 + k), 0)) := Lib.hid (by rw [HN.out, if_neg (by omega)])
                clear hkk hkN
                go_wp2_with fail
                go_ret
                refine ⟨by rw [HN2.out]; rfl, ?_⟩
                rw [HN2.out]
                exact ⟨⟨a + 1 + k, HX2.out.atI (by omega) (by omega), fun _ => rfl⟩, (Tn.ofNew HB9.out).then (Tn.setCell _ _ _ _)⟩
              · have dl : ((m9.length : Int) != (k : Int) + 1) = true := by have h9 := HML.out; simp; omega
                have HN2 : Hid (nuR (B.drop a) 0 = (0, B.drop (a + 1 + k), 10)) := Lib.hid (by rw [HN.out, if_pos hkk])
                clear hkk hkN
                go_wp2_with fail
                go_ret
                refine ⟨by rw [HN2.out]; rfl, ?_⟩
                rw [HN2.out]
                exact ⟨⟨a, HX2.out.err 10, fun e => absurd e (by simp)⟩, (Tn.ofNew HB9.out).then (Tn.setCell _ _ _ _)⟩
end Go.Proofs.Ytpnhdocimjkakaa
namespace Go.Proofs.Ytpnhdocimjkakaa
open Go.RowKit Go.BigFrame Go.Maps

/-- Block g holds these cells. -/
structure Bxo (w : World) (g : Nat) (cs : Array Value) (T : TypeId) : Prop where
  hp : w.heap[g]? = some (.cells cs T)
section
variable {w w' : World} {g b : Nat} {cs : Array Value} {T S : TypeId}
theorem Bxo.cell (h : Bxo w g cs T) {i : Nat} {v : Value} (hi : cs[i]? = some v) : w.cell? ⟨g, i, none⟩ = some v := (cell_of_row w g i cs T (0, 0) h.hp).trans hi
theorem Bxo.lt (h : Bxo w g cs T) : g < w.heap.size := (Array.getElem?_eq_some_iff.1 h.hp).1
theorem Bxo.below (h : Bxo w g cs T) (hb : Below w.heap.size w w') : Bxo w' g cs T := ⟨(hb.block g h.lt).trans h.hp⟩
theorem Bxo.belowB {B : Nat} (h : Bxo w g cs T) (hb : Below B w w') (hB : g < B) : Bxo w' g cs T := ⟨(hb.block g hB).trans h.hp⟩
theorem Bxo.tn {P : Nat → Prop} (h : Bxo w g cs T) (t : Tn P w w') (hn : ¬ P g) : Bxo w' g cs T := ⟨(t.block g h.lt hn).trans h.hp⟩
theorem Bxo.set (h : Bxo w g cs T) (i : Nat) (v : Value) : Bxo (w.setCell ⟨g, i, none⟩ v) g (cs.setIfInBounds i v) T := ⟨by
  have h1 := h.hp
  simp only [World.setCell]
  rw [Array.getElem?_modify, if_pos rfl, h1]
  rfl⟩
theorem Bxo.other {o : Nat} {v : Value} (h : Bxo w g cs T) (hn : g ≠ b) : Bxo (w.setCell ⟨b, o, none⟩ v) g cs T := ⟨by
  have h1 := h.hp
  simp only [World.setCell]
  rw [Array.getElem?_modify, if_neg (fun e => hn e.symm)]
  exact h1⟩
theorem Bxo.fr (h : Bxo w g cs T) (j : Nat) : w.frozen? ⟨g, j, none⟩ = false := by
  unfold World.frozen?
  rw [h.hp]
  simp
theorem Bxo.new (w : World) (cs : Array Value) (T : TypeId) : Bxo (w.alloc (.cells cs T)) w.heap.size cs T := ⟨heap_alloc_new w _⟩
/-- Boxes of unlike types are unlike. -/
theorem Bxo.ne {cs2 : Array Value} (h : Bxo w g cs T) (h2 : Bxo w b cs2 S) (hT : T ≠ S) : g ≠ b := fun e => by
  subst e
  have := h.hp
  rw [h2.hp] at this
  injection this with this
  injection this with _ e3 _
  exact hT e3.symm
theorem So.neB {α : Type} {enc : α → List Value} {k K : Nat} {v : Value} {l : List α} (h : So enc k w K T v l) (g2 : Bxo w b cs S) (hT : T ≠ S) : ∀ c, v.ownBlock = some c → ¬ c = b := fun c hk e => by
  subst e
  rcases h.2 with ⟨e, _⟩ | ⟨b2, cap, cur, e, _, hb, _⟩
  · subst e; cases hk
  · subst e
    simp only [Value.ownBlock, Option.some.injEq] at hk
    subst hk
    have := g2.hp
    rw [hb] at this
    injection this with this
    injection this with _ e3 _
    exact hT e3
theorem So.apartX {α β : Type} {e1 : α → List Value} {e2 : β → List Value} {k1 k2 K1 K2 : Nat} {v u : Value} {l : List α} {m : List β} (h : So e1 k1 w K1 T v l) (g2 : So e2 k2 w K2 S u m) (hT : T ≠ S) : ∀ c, v.ownBlock = some c → ¬ some c = u.ownBlock := fun c hk e => by
  rcases h.2 with ⟨e0, _⟩ | ⟨b1, cap, cur, e0, _, hb, _⟩
  · subst e0; cases hk
  · subst e0
    simp only [Value.ownBlock, Option.some.injEq] at hk
    subst hk
    rcases g2.2 with ⟨f, _⟩ | ⟨b2, cap2, cur2, f, _, hb2, _⟩
    · subst f; cases e
    · subst f
      simp only [Value.ownBlock, Option.some.injEq] at e
      subst e
      rw [hb] at hb2
      injection hb2 with hb2
      injection hb2 with _ e3 _
      exact hT e3
theorem Bxo.neS {α : Type} {enc : α → List Value} {k K : Nat} {v : Value} {l : List α} (g2 : Bxo w b cs S) (h : So enc k w K T v l) (hT : T ≠ S) : ¬ some b = v.ownBlock := fun e => h.neB g2 hT b e.symm rfl
end
/-- An entry, and where its command lies. -/
abbrev Ez := Int × List UInt8 × Option Addr × Nat
def encEz (x : Ez) : List Value := [.int .i64 x.1, .slice x.2.2.1 x.2.1.length x.2.2.2]
theorem encEz_len (x : Ez) : (encEz x).length = 2 := rfl
theorem encEz_one (x : Ez) : ∀ u ∈ encEz x, u.oneCell' = true := by intro u hu; simp [encEz] at hu; rcases hu with rfl | rfl <;> rfl
theorem info_ent : (Try.prog.info? 102).map (fun i => (i.zero, i.size, i.bytes)) = some (some (.agg #[.int .i64 0, .slice none 0 0]), 2, 32) := by kernel_rfl
structure Rs where
  id : Int
  ep : Int
  pr : Int
  ms : List Int
  lg : List Ez
  jo : Int
  su : Int
  ac : Bool
abbrev rc (x : Rs) (MA : Option Addr) (mc : Nat) (LA : Option Addr) (lc mb : Nat) : Array Value := #[.int .i64 x.id, .int .i64 x.ep, .int .i64 x.pr, .slice MA x.ms.length mc, .slice LA x.lg.length lc, .int .i64 x.jo, .int .i64 x.su, .map (some mb), .bool x.ac]
/-- A relay in box b that stands as x; its map in block mb. -/
structure Rl (w : World) (K b mb : Nat) (MA : Option Addr) (mc : Nat) (LA : Option Addr) (lc n : Nat) (f : Int → Int) (h : Int → Bool) (x : Rs) : Prop where
  bx : Bxo w b (rc x MA mc LA lc mb) 96
  ms : So encI 1 w K 3 (.slice MA x.ms.length mc) x.ms
  lg : So encEz 2 w K 102 (.slice LA x.lg.length lc) x.lg
  mp : Im w mb n f h
  kb : K ≤ b
  km : K ≤ mb
section
variable {w w' : World} {K b mb : Nat} {MA LA : Option Addr} {mc lc n : Nat} {f : Int → Int} {h : Int → Bool} {x : Rs}
theorem Rl.below (H : Rl w K b mb MA mc LA lc n f h x) (hb : Below w.heap.size w w') : Rl w' K b mb MA mc LA lc n f h x := ⟨H.bx.below hb, H.ms.below hb, H.lg.below hb, H.mp.below hb, H.kb, H.km⟩
theorem Im.neB {g : Nat} {cs : Array Value} {T : TypeId} (H : Im w mb n f h) (g2 : Bxo w g cs T) : ¬ g = mb := fun e => by
  subst e
  obtain ⟨D, ⟨es, clock, hb, _⟩, _⟩ := H
  have := g2.hp
  rw [hb] at this
  injection this with this
  cases this
theorem Im.neS {α : Type} {enc : α → List Value} {k K2 : Nat} {T : TypeId} {v : Value} {l : List α} (H : Im w mb n f h) (hs : So enc k w K2 T v l) : ∀ c, v.ownBlock = some c → ¬ c = mb := fun c hk e => by
  subst e
  rcases hs.2 with ⟨e0, _⟩ | ⟨b2, cap, cur, e0, _, hb, _⟩
  · subst e0; cases hk
  · subst e0
    simp only [Value.ownBlock, Option.some.injEq] at hk
    subst hk
    obtain ⟨D, ⟨es, clock, hm, _⟩, _⟩ := H
    rw [hb] at hm
    injection hm with hm
    cases hm
set_option maxRecDepth 100000 in
theorem Im.look2 (H : Im w mb n f h) {k : Int} (hk : I64 k) : (Instr.lookup MT (.map (some mb)) (.int .i64 k) true).run Try.prog w = .ok (.tuple #[.int .i64 (f k), .bool (h k)]) w := by
  obtain ⟨D, hD, h1, h2⟩ := H
  obtain ⟨v, ps, hr, hat⟩ := hD.look_ok law_k Try.underlying94 (zero_int w) (plainElem_int Try.underlying3 (by decide : (Lit.int .i64 0).wf = true)) (key_of hk)
  obtain ⟨c, rfl, hc, _⟩ := plainElem_int_inv Try.underlying3 hat
  simp only [Prod.mk.injEq] at hc
  rw [h1] at hc
  have hc1 := hc.1
  injection hc1 with hc1
  injection hc1 with _ hc1
  rw [hr, h2, hc1]
end
end Go.Proofs.Ytpnhdocimjkakaa
