/- What stands in a segment: the program's read. -/
import Derived.Test.YtpckbbjlihhpdaaWl1
import Derived.Test.YtpckbbjlihhpdaaSlc
import Derived.Test.YtpckbbjlihhpdaaDkW
import Derived.Deep.CutBlock
namespace Go.Proofs.Ytpckbbjlihhpdaa
open Go.RowKit Go.BigFrame

/-- Behind n bytes. -/
structure St (b : List UInt8) (n : Nat) (s : Bool) (base : List UInt8) (rs : List (List UInt8)) : Prop where
  le : n ≤ b.length
  num : rs.length * 9 ≤ n
  st : (n = 0 ∧ s = false ∧ base = [] ∧ rs = []) ∨ (9 ≤ n ∧ ((openB b).2.2.2 = 0 ∧ (openB b).1 = 2) ∧ base = (openB b).2.1 ∧ walGo (b.drop (openB b).2.2.1) false (openB b).2.2.1 = (rs ++ (walGo (b.drop n) s n).1, (walGo (b.drop n) s n).2))
section
variable {b : List UInt8} {n : Nat} {s : Bool} {base : List UInt8} {rs : List (List UInt8)}
theorem St.zero (b : List UInt8) : St b 0 false [] [] := ⟨Nat.zero_le _, Nat.zero_le _, .inl ⟨rfl, rfl, rfl, rfl⟩⟩
theorem St.first (h1 : (openB b).2.2.2 = 0) (h2 : (openB b).1 = 2) : St b (openB b).2.2.1 false (openB b).2.1 [] := by
  have h := openB_used h1
  exact ⟨h.2.1, by simp, .inr ⟨h.1, ⟨h1, h2⟩, rfl, by simp⟩⟩
theorem St.rec_ (h : St b n s base rs) (hn : 0 < n) (h1 : (openB (b.drop n)).2.2.2 = 0) (h2 : (openB (b.drop n)).1 = 1) : St b (n + (openB (b.drop n)).2.2.1) s base (rs ++ [(openB (b.drop n)).2.1]) := by
  have hu := openB_used h1
  rw [List.length_drop] at hu
  rcases h.st with h0 | ⟨h9, hk, hb, hw⟩
  · omega
  refine ⟨by have := h.le; omega, by have := h.num; rw [List.length_append]; simp; omega, .inr ⟨by omega, hk, hb, ?_⟩⟩
  rw [hw, walGo_rec h1 h2, List.drop_drop]
  simp
theorem St.seal_ (h : St b n false base rs) (hn : 0 < n) (h1 : (openB (b.drop n)).2.2.2 = 0) (h2 : (openB (b.drop n)).1 = 3) : St b (n + (openB (b.drop n)).2.2.1) true base rs := by
  have hu := openB_used h1
  rw [List.length_drop] at hu
  rcases h.st with h0 | ⟨h9, hk, hb, hw⟩
  · omega
  refine ⟨by have := h.le; omega, by have := h.num; omega, .inr ⟨by omega, hk, hb, ?_⟩⟩
  rw [hw, walGo_seal h1 h2, List.drop_drop]
/-- What is told where the loop ends. -/
def fin (s : Bool) (n : Nat) (base : List UInt8) (rs : List (List UInt8)) : Option (List UInt8 × List (List UInt8) × Nat) := if s = true then some (base, rs, n) else none
theorem St.none_ (h : ¬ ((openB b).2.2.2 = 0 ∧ (openB b).1 = 2)) : readB b = none := by unfold readB; rw [if_neg h]
theorem St.stop (h : St b n s base rs) (hn : 0 < n) (hw : walGo (b.drop n) s n = ([], s, n)) : readB b = fin s n base rs := by
  rcases h.st with h0 | ⟨h9, hk, hb, hg⟩
  · omega
  unfold readB
  rw [if_pos hk, hg, hw, hb, List.append_nil]
  rfl
end
theorem info_bsl : (Try.prog.info? 30).map (fun i => (i.zero, i.size, i.bytes)) = some (some (.slice none 0 0), 1, 24) := by kernel_rfl
def ReadPost (w : World) (b : List UInt8) (e : Ending) (w' : World) : Prop :=
  Below w.heap.size w w' ∧ ((readB b = none ∧ e = .returned (.tuple #[.agg #[.slice none 0 0, .slice none 0 0], .int .i64 0])) ∨
    ∃ base rs n A1 c1 A2 c2, readB b = some (base, rs, n) ∧ e = .returned (.tuple #[.agg #[.slice A1 base.length c1, .slice A2 rs.length c2], .int .i64 (n : Nat)]) ∧ Ob w' w.heap.size (.slice A1 base.length c1) base ∧ Rw w' w.heap.size 30 (.slice A2 rs.length c2) rs)
/-- The log that is being read, in its box. -/
structure Lg (w wr : World) (base : List UInt8) (A1 : Option Addr) (c1 : Nat) (rs : List (List UInt8)) (A2 : Option Addr) (c2 : Nat) : Prop where
  x0 : wr.cell? ⟨w.heap.size, 0, none⟩ = some (.slice A1 base.length c1)
  x1 : wr.cell? ⟨w.heap.size, 1, none⟩ = some (.slice A2 rs.length c2)
  fr : ∀ j, wr.frozen? ⟨w.heap.size, j, none⟩ = false
  ob : Ob wr (w.heap.size + 1) (.slice A1 base.length c1) base
  rw_ : Rw wr (w.heap.size + 1) 30 (.slice A2 rs.length c2) rs
  ne : ∀ g, (Value.slice A2 rs.length c2).ownBlock = some g → (Value.slice A1 base.length c1).ownBlock ≠ some g
  bel : Below w.heap.size w wr
  lt : w.heap.size < wr.heap.size
  nn : rs = [] → A2 = none
section
variable {w wr w2 : World} {base p : List UInt8} {A1 A2 A9 : Option Addr} {c1 c2 c9 : Nat} {rs : List (List UInt8)}
theorem Lg.below (h : Lg w wr base A1 c1 rs A2 c2) (hb : Below wr.heap.size wr w2) : Lg w w2 base A1 c1 rs A2 c2 :=
  ⟨kept hb h.x0, kept hb h.x1, fun j => (hb.frozen (p := ⟨w.heap.size, j, none⟩) h.lt).trans (h.fr j), h.ob.below hb, h.rw_.below hb, h.ne, h.bel.trans (hb.mono (Nat.le_of_lt h.lt)), Nat.lt_of_lt_of_le h.lt hb.size, h.nn⟩
theorem Lg.setBase (h : Lg w wr base A1 c1 [] A2 c2) (hn : (Value.slice A2 0 c2).ownBlock = none) (ho : Ob wr (w.heap.size + 1) (.slice A9 p.length c9) p) : Lg w (wr.setCell ⟨w.heap.size, 0, none⟩ (.slice A9 p.length c9)) p A9 c9 [] A2 c2 := by
  have t := Tn.setCell wr w.heap.size 0 (.slice A9 p.length c9)
  have hlt := h.lt
  refine ⟨by simp [go_sem, h.x0], by simpa [go_sem] using h.x1, fun j => by simp [go_sem, h.fr], t.ob ho fun g hg e => ?_, h.rw_.tn t fun k hk e => by omega, fun g hg => ?_, t.bel h.bel (fun k hk => by omega) (Nat.le_refl _), Nat.lt_of_lt_of_le h.lt t.size, h.nn⟩
  · have := (ho.lt g hg).1
    omega
  · have h9 : (Value.slice A2 0 c2).ownBlock = some g := hg
    rw [hn] at h9
    cases h9
theorem Lg.push (h : Lg w wr base A1 c1 rs A2 c2) (hr : Rw w2 (w.heap.size + 1) 30 (.slice A9 (rs.length + 1) c9) (rs ++ [p])) (hg : wr.grownBy w2 (Value.slice A2 rs.length c2).ownBlock) (hat : ∀ g, (Value.slice A9 (rs.length + 1) c9).ownBlock = some g → (Value.slice A2 rs.length c2).ownBlock = some g ∨ wr.heap.size ≤ g) :
    Lg w (w2.setCell ⟨w.heap.size, 1, none⟩ (.slice A9 (rs.length + 1) c9)) base A1 c1 (rs ++ [p]) A9 c9 := by
  have hlt := h.lt
  have t0 : Tn (fun k => (Value.slice A2 rs.length c2).ownBlock = some k) wr w2 := Tn.ofGrown hg |>.mono fun k _ e => e.symm
  have t1 := Tn.setCell w2 w.heap.size 1 (.slice A9 (rs.length + 1) c9)
  have hP : ¬ (Value.slice A2 rs.length c2).ownBlock = some w.heap.size := fun e => by have := (h.rw_.lt _ e).1; omega
  have y0 := t0.cell h.x0 hP
  have y1 := t0.cell h.x1 hP
  have yf : ∀ j, w2.frozen? ⟨w.heap.size, j, none⟩ = false := fun j => (t0.frozen (p := ⟨w.heap.size, j, none⟩) hlt hP).trans (h.fr j)
  have o1 := t0.ob h.ob fun g hg e => h.ne g e hg
  have hl : (rs ++ [p]).length = rs.length + 1 := by simp
  refine ⟨by simp [go_sem, y0], by rw [hl]; simp [go_sem, y1], fun j => by simp [go_sem, yf], t1.ob o1 fun g hg e => ?_, by rw [hl]; exact hr.tn t1 fun k hk e => by omega, fun g hg e => ?_, t1.bel (t0.bel h.bel (fun k hk => by have := (h.rw_.lt k hk).1; omega) (Nat.le_refl _)) (fun k hk => by omega) (Nat.le_refl _), Nat.lt_of_lt_of_le hlt (Nat.le_trans t0.size t1.size), fun e => by simp at e⟩
  · have := (o1.lt g hg).1
    omega
  · rw [hl] at hg
    rcases hat g hg with h9 | h9
    · exact h.ne g h9 e
    · have := (h.ob.lt g e).2
      omega
end
set_option maxRecDepth 100000 in
set_option maxHeartbeats 6400000 in
theorem read_any (K : Nat) (A : Option Addr) (cap : Nat) (b : List UInt8) (w : World) (hb : Bs w K A cap b) (hK : K ≤ w.heap.size) (hl : b.length ≤ 1099511627776) :
    Calls Try.prog 58 #[.slice A b.length cap] w (ReadPost w b) := by
  have hle := hb.le
  have hmax := hb.max
  unfold maxLen at hmax
  go_enter Try.func58, Try.ntmps58
  go_wp2
  go_step3
  go_wp2
  go_step3
  go_wp2
  go_loopw [4, 5] (fun nv sv wr => ∃ (n : Nat) (s : Bool) (base : List UInt8) (rs : List (List UInt8)) (A1 : Option Addr) (c1 : Nat) (A2 : Option Addr) (c2 : Nat), nv = .int .i64 (n : Int) ∧ sv = .bool s ∧ Hid (St b n s base rs) ∧ Hid (Lg w wr base A1 c1 rs A2 c2)) (fun nv _ _ => b.length - (intOf nv).toNat)
  case atStart => exact ⟨0, false, [], [], none, 0, none, 0, rfl, rfl, Lib.hid (St.zero b), Lib.hid ⟨by simp [go_sem], by simp [go_sem], fun j => by simp [go_sem], Ob.empty _ _, Rw.empty _ _ _, fun g h => by simp [Value.ownBlock] at h, (Below.refl _ _).alloc (Nat.le_refl _) _, by simp, fun _ => rfl⟩⟩
  case round =>
    obtain ⟨n, s, base, rs, A1, c1, A2, c2, rfl, rfl, HS, HX0⟩ := hrel
    rename World => y0
    have hn := HS.out.le
    have hsl := slice_from A b.length cap n hn
    have hbr : Bs y0 K _ _ _ := (hb.below (HX0.out.bel.mono hK)).cut (i := n) (j := b.length) hn (Nat.le_refl _)
    have hd : (b.drop n).take (b.length - n) = b.drop n := List.take_of_length_le (by simp)
    rw [hd] at hbr
    have hdl : (b.drop n).length = b.length - n := List.length_drop
    generalize (if cap = n then A else A.map (·.add n)) = AJ at *
    have hz0 := HX0.out.bel.size
    have hco := open_any K (cap - n) (b.drop n) y0 AJ hbr (by omega)
    rw [hdl] at hco
    have HCO := Lib.hid hco
    clear hco hbr hd
    go_wp2_with fail
    refine HCO.out.mono ?_
    rintro e y1 ⟨A9, c9, rfl, ob9, b9⟩
    have HX := Lib.hid (HX0.out.below b9)
    have x0 := HX.out.x0
    have x1 := HX.out.x1
    have xf := HX.out.fr
    have hyl := HX.out.lt
    have HEB : Hid (∀ u v, Below w.heap.size w ((y1.setCell ⟨w.heap.size, 0, none⟩ u).setCell ⟨w.heap.size, 1, none⟩ v)) := Lib.hid fun u v => (HX.out.bel.setCell (p := ⟨w.heap.size, 0, none⟩) (Nat.le_refl _) u).setCell (p := ⟨w.heap.size, 1, none⟩) (Nat.le_refl _) v
    have HEO : Hid (∀ u v, Ob ((y1.setCell ⟨w.heap.size, 0, none⟩ u).setCell ⟨w.heap.size, 1, none⟩ v) w.heap.size (.slice A1 base.length c1) base) := Lib.hid fun u v => (((Tn.setCell y1 w.heap.size 0 u).then (Tn.setCell _ w.heap.size 1 v)).ob HX.out.ob fun g hg e => by have := (HX.out.ob.lt g hg).1; omega).more (Nat.le_succ _)
    have HER : Hid (∀ u v, Rw ((y1.setCell ⟨w.heap.size, 0, none⟩ u).setCell ⟨w.heap.size, 1, none⟩ v) w.heap.size 30 (.slice A2 rs.length c2) rs) := Lib.hid fun u v => (HX.out.rw_.tn ((Tn.setCell y1 w.heap.size 0 u).then (Tn.setCell _ w.heap.size 1 v)) fun k hk e => by omega).more (Nat.le_succ _)
    have HST0 : True := trivial
    clear HCO b9 hsl
    cases s
    · by_cases ho : (openB (b.drop n)).2.2.2 = 0
      · have hu := openB_used ho
        rw [hdl] at hu
        have hu1 := hu.1
        have hu2 := hu.2.1
        clear hu
        by_cases k2 : (openB (b.drop n)).1 = 2
        · by_cases hn0 : n = 0
          · subst hn0
            have hz : base = [] ∧ rs = [] := by
              rcases HS.out.st with ⟨_, _, h1, h2⟩ | ⟨h9, _⟩
              · exact ⟨h1, h2⟩
              · omega
            obtain ⟨rfl, rfl⟩ := hz
            have hbo : b.drop 0 = b := rfl
            rw [hbo] at ho k2 hu1 hu2 ⊢
            have HNX := Lib.hid (St.first ho k2)
            have HX9 : Hid (Ob y1 (w.heap.size + 1) (.slice A9 (openB b).2.1.length c9) (openB b).2.1) := Lib.hid (by rw [hbo] at ob9; exact ob9.more (by have := HX0.out.lt; omega))
            have HNO : Hid ((Value.slice A2 0 c2).ownBlock = none) := Lib.hid (by rw [HX.out.nn rfl]; rfl)
            have HFIN := Lib.hid (HX.out.setBase HNO.out HX9.out)
            clear ob9 HX9 HX0 HS HST0
            generalize openB b = o at *
            obtain ⟨k, p, u, er⟩ := o
            simp only at ho k2 hu1 hu2 HNX HFIN ⊢
            subst ho k2
            go_wp2_with fail
            go_roundw
            case rel => exact ⟨u, false, p, [], A9, c9, A2, c2, by go_num, rfl, HNX, HFIN⟩
            case measure => simp [intOf]; omega
          · have HST := Lib.hid (HS.out.stop (by omega) (walGo_else ho (by rw [k2]; decide) (fun h => absurd (k2.symm.trans h.1) (by decide))))
            have n0 : ((n : Int) == 0) = false := by simpa using hn0
            clear ob9 HX0 HS HST0 hn0
            generalize openB (b.drop n) = o at *
            obtain ⟨k, p, u, er⟩ := o
            simp only at ho k2 hu1 hu2
            subst ho k2
            have HSN : Hid (readB b = none) := HST
            clear HST HX
            go_wp2_with fail
            (try rw [Exit.noGoto_ret])
            refine bodyPost_ret (v := .tuple #[.agg #[.slice none 0 0, .slice none 0 0], .int .i64 0]) (by simp [results, Try.results58, go_sem, x0, x1]) rfl ?_
            exact ⟨HEB.out _ _, .inl ⟨HSN.out, rfl⟩⟩
        · have kk2 : (((openB (b.drop n)).1.toNat : Int) == 2) = false := by
            have : ¬ (openB (b.drop n)).1.toNat = 2 := fun h => k2 (UInt8.toNat_inj.1 h)
            simp; omega
          by_cases hn0 : n = 0
          · subst hn0
            have HST : Hid (readB b = fin false 0 base rs) := Lib.hid (St.none_ fun h => k2 h.2)
            clear ob9 HX0 HS HST0
            generalize openB (b.drop 0) = o at *
            obtain ⟨k, p, u, er⟩ := o
            simp only at ho k2 kk2 hu1 hu2
            subst ho
            clear k2
            have HSN : Hid (readB b = none) := HST
            clear HST HX
            go_wp2_with fail
            (try rw [Exit.noGoto_ret])
            refine bodyPost_ret (v := .tuple #[.agg #[.slice none 0 0, .slice none 0 0], .int .i64 0]) (by simp [results, Try.results58, go_sem, x0, x1]) rfl ?_
            exact ⟨HEB.out _ _, .inl ⟨HSN.out, rfl⟩⟩
          · have n0 : ((n : Int) == 0) = false := by simpa using hn0
            by_cases k1 : (openB (b.drop n)).1 = 1
            · have HNX := Lib.hid (HS.out.rec_ (by omega) ho k1)
              have hne : ∀ ad : Addr, A9 = some ad → 0 < (openB (b.drop n)).2.1.length → w.heap.size + 1 ≤ ad.block ∧ (Value.slice A2 rs.length c2).ownBlock ≠ some ad.block := fun ad e _ => by
                have h2 := (ob9.lt ad.block (by rw [e]; rfl)).1
                exact ⟨by have := HX0.out.lt; omega, fun he => by have h1 := (HX0.out.rw_.lt _ he).2; omega⟩
              have HNE := Lib.hid hne
              have hnum := HS.out.num
              have HOB9 := Lib.hid ob9
              clear ob9 hne HX0 HS HST0 kk2 k2 hn0
              generalize openB (b.drop n) = o at *
              obtain ⟨k, p, u, er⟩ := o
              simp only at ho k1 hu1 hu2 HNX HNE HOB9
              subst ho k1
              go_wp2_with (at_builtin; refine wpList_pushR Try.underlying40 info_bsl rfl _ rfl (.tmp 36) (.tmp 38) rfl (w.heap.size + 1) (.slice A2 rs.length c2) rs rfl HX.out.rw_ p A9 c9 y1.heap.size rfl rfl HOB9.out.bs.1 HNE.out (rs.length + 1) rfl (by omega) (by have := HX.out.lt; omega) ?_; intro A8 c8 y2 hr8 hg8 hat8; have HFIN := Lib.hid (HX.out.push hr8 hg8 hat8); have t8 : Tn (fun k => (Value.slice A2 rs.length c2).ownBlock = some k) y1 y2 := (Tn.ofGrown hg8).mono (fun k _ e => e.symm); have hP8 : ¬ (Value.slice A2 rs.length c2).ownBlock = some w.heap.size := (fun e => by have := (HX.out.rw_.lt _ e).1; omega); have u1 := t8.cell x1 hP8; have uf := (t8.frozen (p := ⟨w.heap.size, 1, none⟩) HX.out.lt hP8).trans (xf 1); clear hr8 hg8 hat8 t8 hP8)
              go_roundw
              case rel => exact ⟨n + u, false, base, rs ++ [p], A1, c1, A8, c8, by go_num, rfl, HNX, HFIN⟩
              case measure => simp [intOf]; omega
            · have kk1 : (((openB (b.drop n)).1.toNat : Int) == 1) = false := by
                have : ¬ (openB (b.drop n)).1.toNat = 1 := fun h => k1 (UInt8.toNat_inj.1 h)
                simp; omega
              by_cases k3 : (openB (b.drop n)).1 = 3
              · have HNX := Lib.hid (HS.out.seal_ (by omega) ho k3)
                clear ob9 HX0 HS HST0 kk1 kk2 k1 k2 hn0
                generalize openB (b.drop n) = o at *
                obtain ⟨k, p, u, er⟩ := o
                simp only at ho k3 hu1 hu2 HNX
                subst ho k3
                go_wp2_with fail
                go_roundw
                case rel => exact ⟨n + u, true, base, rs, A1, c1, A2, c2, by go_num, rfl, HNX, HX⟩
                case measure => simp [intOf]; omega
              · have kk3 : (((openB (b.drop n)).1.toNat : Int) == 3) = false := by
                  have : ¬ (openB (b.drop n)).1.toNat = 3 := fun h => k3 (UInt8.toNat_inj.1 h)
                  simp; omega
                have HST := Lib.hid (HS.out.stop (by omega) (walGo_else ho k1 (fun h => k3 h.1)))
                clear ob9 HX0 HS HST0 hn0 k1 k2 k3
                generalize openB (b.drop n) = o at *
                obtain ⟨k, p, u, er⟩ := o
                simp only at ho kk1 kk2 kk3 hu1 hu2
                subst ho
                have HSN : Hid (readB b = none) := HST
                clear HST HX
                go_wp2_with fail
                (try rw [Exit.noGoto_ret])
                refine bodyPost_ret (v := .tuple #[.agg #[.slice none 0 0, .slice none 0 0], .int .i64 0]) (by simp [results, Try.results58, go_sem, x0, x1]) rfl ?_
                exact ⟨HEB.out _ _, .inl ⟨HSN.out, rfl⟩⟩
      · have HST : Hid (readB b = fin false n base rs) := Lib.hid (by
          by_cases hn0 : n = 0
          · subst hn0
            rcases HS.out.st with ⟨_, h1, _⟩ | ⟨h9, _⟩
            · rw [St.none_ (b := b) (fun h => ho h.1)]; rfl
            · omega
          · exact HS.out.stop (by omega) (walGo_bad ho))
        clear ob9 HX0 HS HST0
        generalize openB (b.drop n) = o at *
        obtain ⟨k, p, u, er⟩ := o
        simp only at ho
        have he : ((er : Int) == 0) = false := by simp; omega
        clear ho
        have HSN : Hid (readB b = none) := HST
        clear HST HX
        go_wp2_with fail
        (try rw [Exit.noGoto_ret])
        refine bodyPost_ret (v := .tuple #[.agg #[.slice none 0 0, .slice none 0 0], .int .i64 0]) (by simp [results, Try.results58, go_sem, x0, x1]) rfl ?_
        exact ⟨HEB.out _ _, .inl ⟨HSN.out, rfl⟩⟩
    · by_cases ho : (openB (b.drop n)).2.2.2 = 0
      · have hu := openB_used ho
        rw [hdl] at hu
        have hu1 := hu.1
        have hu2 := hu.2.1
        clear hu
        by_cases k2 : (openB (b.drop n)).1 = 2
        · by_cases hn0 : n = 0
          · exact absurd hn0 (by have := HS.out.st; rcases this with ⟨_, h, _⟩ | ⟨h, _⟩; exact absurd h (by decide); omega)
          · have HST := Lib.hid (HS.out.stop (by omega) (walGo_else ho (by rw [k2]; decide) (fun h => absurd (k2.symm.trans h.1) (by decide))))
            have n0 : ((n : Int) == 0) = false := by simpa using hn0
            clear ob9 HX0 HS HST0 hn0
            generalize openB (b.drop n) = o at *
            obtain ⟨k, p, u, er⟩ := o
            simp only at ho k2 hu1 hu2
            subst ho k2
            have HSN : Hid (readB b = some (base, rs, n)) := HST
            clear HST
            go_wp2_with fail
            (try rw [Exit.noGoto_ret])
            refine bodyPost_ret (v := .tuple #[.agg #[.slice A1 base.length c1, .slice A2 rs.length c2], .int .i64 (n : Int)]) (by simp [results, Try.results58, go_sem, x0, x1]) rfl ?_
            exact ⟨HEB.out _ _, .inr ⟨base, rs, n, A1, c1, A2, c2, HSN.out, rfl, HEO.out _ _, HER.out _ _⟩⟩
        · have kk2 : (((openB (b.drop n)).1.toNat : Int) == 2) = false := by
            have : ¬ (openB (b.drop n)).1.toNat = 2 := fun h => k2 (UInt8.toNat_inj.1 h)
            simp; omega
          by_cases hn0 : n = 0
          · exact absurd hn0 (by have := HS.out.st; rcases this with ⟨_, h, _⟩ | ⟨h, _⟩; exact absurd h (by decide); omega)
          · have n0 : ((n : Int) == 0) = false := by simpa using hn0
            by_cases k1 : (openB (b.drop n)).1 = 1
            · have HNX := Lib.hid (HS.out.rec_ (by omega) ho k1)
              have hne : ∀ ad : Addr, A9 = some ad → 0 < (openB (b.drop n)).2.1.length → w.heap.size + 1 ≤ ad.block ∧ (Value.slice A2 rs.length c2).ownBlock ≠ some ad.block := fun ad e _ => by
                have h2 := (ob9.lt ad.block (by rw [e]; rfl)).1
                exact ⟨by have := HX0.out.lt; omega, fun he => by have h1 := (HX0.out.rw_.lt _ he).2; omega⟩
              have HNE := Lib.hid hne
              have hnum := HS.out.num
              have HOB9 := Lib.hid ob9
              clear ob9 hne HX0 HS HST0 kk2 k2 hn0
              generalize openB (b.drop n) = o at *
              obtain ⟨k, p, u, er⟩ := o
              simp only at ho k1 hu1 hu2 HNX HNE HOB9
              subst ho k1
              go_wp2_with (at_builtin; refine wpList_pushR Try.underlying40 info_bsl rfl _ rfl (.tmp 36) (.tmp 38) rfl (w.heap.size + 1) (.slice A2 rs.length c2) rs rfl HX.out.rw_ p A9 c9 y1.heap.size rfl rfl HOB9.out.bs.1 HNE.out (rs.length + 1) rfl (by omega) (by have := HX.out.lt; omega) ?_; intro A8 c8 y2 hr8 hg8 hat8; have HFIN := Lib.hid (HX.out.push hr8 hg8 hat8); have t8 : Tn (fun k => (Value.slice A2 rs.length c2).ownBlock = some k) y1 y2 := (Tn.ofGrown hg8).mono (fun k _ e => e.symm); have hP8 : ¬ (Value.slice A2 rs.length c2).ownBlock = some w.heap.size := (fun e => by have := (HX.out.rw_.lt _ e).1; omega); have u1 := t8.cell x1 hP8; have uf := (t8.frozen (p := ⟨w.heap.size, 1, none⟩) HX.out.lt hP8).trans (xf 1); clear hr8 hg8 hat8 t8 hP8)
              go_roundw
              case rel => exact ⟨n + u, true, base, rs ++ [p], A1, c1, A8, c8, by go_num, rfl, HNX, HFIN⟩
              case measure => simp [intOf]; omega
            · have kk1 : (((openB (b.drop n)).1.toNat : Int) == 1) = false := by
                have : ¬ (openB (b.drop n)).1.toNat = 1 := fun h => k1 (UInt8.toNat_inj.1 h)
                simp; omega
              by_cases k3 : (openB (b.drop n)).1 = 3
              · have HST := Lib.hid (HS.out.stop (by omega) (walGo_else ho k1 (fun h => absurd h.2 (by decide))))
                clear ob9 HX0 HS HST0 kk1 kk2 k1 k2 hn0
                generalize openB (b.drop n) = o at *
                obtain ⟨k, p, u, er⟩ := o
                simp only at ho k3 hu1 hu2
                subst ho k3
                have HSN : Hid (readB b = some (base, rs, n)) := HST
                clear HST
                go_wp2_with fail
                (try rw [Exit.noGoto_ret])
                refine bodyPost_ret (v := .tuple #[.agg #[.slice A1 base.length c1, .slice A2 rs.length c2], .int .i64 (n : Int)]) (by simp [results, Try.results58, go_sem, x0, x1]) rfl ?_
                exact ⟨HEB.out _ _, .inr ⟨base, rs, n, A1, c1, A2, c2, HSN.out, rfl, HEO.out _ _, HER.out _ _⟩⟩
              · have kk3 : (((openB (b.drop n)).1.toNat : Int) == 3) = false := by
                  have : ¬ (openB (b.drop n)).1.toNat = 3 := fun h => k3 (UInt8.toNat_inj.1 h)
                  simp; omega
                have HST := Lib.hid (HS.out.stop (by omega) (walGo_else ho k1 (fun h => k3 h.1)))
                clear ob9 HX0 HS HST0 hn0 k1 k2 k3
                generalize openB (b.drop n) = o at *
                obtain ⟨k, p, u, er⟩ := o
                simp only at ho kk1 kk2 kk3 hu1 hu2
                subst ho
                have HSN : Hid (readB b = some (base, rs, n)) := HST
                clear HST
                go_wp2_with fail
                (try rw [Exit.noGoto_ret])
                refine bodyPost_ret (v := .tuple #[.agg #[.slice A1 base.length c1, .slice A2 rs.length c2], .int .i64 (n : Int)]) (by simp [results, Try.results58, go_sem, x0, x1]) rfl ?_
                exact ⟨HEB.out _ _, .inr ⟨base, rs, n, A1, c1, A2, c2, HSN.out, rfl, HEO.out _ _, HER.out _ _⟩⟩
      · have HST : Hid (readB b = fin true n base rs) := Lib.hid (by
          by_cases hn0 : n = 0
          · subst hn0
            rcases HS.out.st with ⟨_, h1, _⟩ | ⟨h9, _⟩
            · cases h1
            · omega
          · exact HS.out.stop (by omega) (walGo_bad ho))
        clear ob9 HX0 HS HST0
        generalize openB (b.drop n) = o at *
        obtain ⟨k, p, u, er⟩ := o
        simp only at ho
        have he : ((er : Int) == 0) = false := by simp; omega
        clear ho
        have HSN : Hid (readB b = some (base, rs, n)) := HST
        clear HST
        go_wp2_with fail
        (try rw [Exit.noGoto_ret])
        refine bodyPost_ret (v := .tuple #[.agg #[.slice A1 base.length c1, .slice A2 rs.length c2], .int .i64 (n : Int)]) (by simp [results, Try.results58, go_sem, x0, x1]) rfl ?_
        exact ⟨HEB.out _ _, .inr ⟨base, rs, n, A1, c1, A2, c2, HSN.out, rfl, HEO.out _ _, HER.out _ _⟩⟩
end Go.Proofs.Ytpckbbjlihhpdaa
