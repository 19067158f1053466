/- The document's Whole. -/
import Derived.Test.YtkkaehaoahpibaaPk13
import Derived.Test.YtkkaehaoahpibaaPk7
import Derived.Test.YtkkaehaoahpibaaPk9
import Derived.Deep.CutBlock
import Derived.Test.YtkkaehaoahpibaaPk12
import Derived.Test.YtkkaehaoahpibaaPk11
import Derived.Test.YtkkaehaoahpibaaPk0
namespace Go.Proofs.Ytkkaehaoahpibaa
open Go.RowKit Go.BigFrame

/-- Behind n bytes. -/
structure St (b : List UInt8) (n : Nat) (s : Bool) (base : List UInt8) (rs : List (List UInt8)) : Prop where
  le : n ≤ b.length
  num : rs.length * 9 ≤ n
  st : (n = 0 ∧ s = false ∧ base = [] ∧ rs = []) ∨ (9 ≤ n ∧ ((openB b).2.2.2 = 0 ∧ (openB b).1 = 2) ∧ base = (openB b).2.1 ∧ walGo (b.drop (openB b).2.2.1) false (openB b).2.2.1 = (rs ++ (walGo (b.drop n) s n).1, (walGo (b.drop n) s n).2))
section
variable {b : List UInt8} {n : Nat} {s : Bool} {base : List UInt8} {rs : List (List UInt8)}
theorem St.zero (b : List UInt8) : St b 0 false [] [] := ⟨Nat.zero_le _, Nat.zero_le _, .inl ⟨rfl, rfl, rfl, rfl⟩⟩
theorem St.first (h1 : (openB b).2.2.2 = 0) (h2 : (openB b).1 = 2) : St b (openB b).2.2.1 false (openB b).2.1 [] := by
  have h := openB_used h1
  exact ⟨h.2.1, by simp, .inr ⟨h.1, ⟨h1, h2⟩, rfl, by simp⟩⟩
theorem St.rec_ (h : St b n s base rs) (hn : 0 < n) (h1 : (openB (b.drop n)).2.2.2 = 0) (h2 : (openB (b.drop n)).1 = 1) : St b (n + (openB (b.drop n)).2.2.1) s base (rs ++ [(openB (b.drop n)).2.1]) := by
  have hu := openB_used h1
  rw [List.length_drop] at hu
  rcases h.st with h0 | ⟨h9, hk, hb, hw⟩
  · omega
  refine ⟨by have := h.le; omega, by have := h.num; rw [List.length_append]; simp; omega, .inr ⟨by omega, hk, hb, ?_⟩⟩
  rw [hw, walGo_rec h1 h2, List.drop_drop]
  simp
theorem St.seal_ (h : St b n false base rs) (hn : 0 < n) (h1 : (openB (b.drop n)).2.2.2 = 0) (h2 : (openB (b.drop n)).1 = 3) : St b (n + (openB (b.drop n)).2.2.1) true base rs := by
  have hu := openB_used h1
  rw [List.length_drop] at hu
  rcases h.st with h0 | ⟨h9, hk, hb, hw⟩
  · omega
  refine ⟨by have := h.le; omega, by have := h.num; omega, .inr ⟨by omega, hk, hb, ?_⟩⟩
  rw [hw, walGo_seal h1 h2, List.drop_drop]
/-- What is told where the loop ends. -/
def fin (s : Bool) (n : Nat) (base : List UInt8) (rs : List (List UInt8)) : Option (List UInt8 × List (List UInt8) × Nat) := if s = true then some (base, rs, n) else none
theorem St.none_ (h : ¬ ((openB b).2.2.2 = 0 ∧ (openB b).1 = 2)) : readB b = none := by unfold readB; rw [if_neg h]
theorem St.stop (h : St b n s base rs) (hn : 0 < n) (hw : walGo (b.drop n) s n = ([], s, n)) : readB b = fin s n base rs := by
  rcases h.st with h0 | ⟨h9, hk, hb, hg⟩
  · omega
  unfold readB
  rw [if_pos hk, hg, hw, hb, List.append_nil]
  rfl
end
theorem info_bsl : (Try.prog.info? 32).map (fun i => (i.zero, i.size, i.bytes)) = some (some (.slice none 0 0), 1, 24) := by kernel_rfl
def ReadPost (w : World) (b : List UInt8) (e : Ending) (w' : World) : Prop :=
  Below w.heap.size w w' ∧ ((readB b = none ∧ e = .returned (.tuple #[.agg #[.slice none 0 0, .slice none 0 0], .int .i64 0])) ∨
    ∃ base rs n A1 c1 A2 c2, readB b = some (base, rs, n) ∧ e = .returned (.tuple #[.agg #[.slice A1 base.length c1, .slice A2 rs.length c2], .int .i64 (n : Nat)]) ∧ Ob w' w.heap.size (.slice A1 base.length c1) base ∧ Rw w' w.heap.size 32 (.slice A2 rs.length c2) rs)
/-- The log that is being read, in its box. -/
structure Lg (w wr : World) (base : List UInt8) (A1 : Option Addr) (c1 : Nat) (rs : List (List UInt8)) (A2 : Option Addr) (c2 : Nat) : Prop where
  x0 : wr.cell? ⟨w.heap.size, 0, none⟩ = some (.slice A1 base.length c1)
  x1 : wr.cell? ⟨w.heap.size, 1, none⟩ = some (.slice A2 rs.length c2)
  fr : ∀ j, wr.frozen? ⟨w.heap.size, j, none⟩ = false
  ob : Ob wr (w.heap.size + 1) (.slice A1 base.length c1) base
  rw_ : Rw wr (w.heap.size + 1) 32 (.slice A2 rs.length c2) rs
  ne : ∀ g, (Value.slice A2 rs.length c2).ownBlock = some g → (Value.slice A1 base.length c1).ownBlock ≠ some g
  bel : Below w.heap.size w wr
  lt : w.heap.size < wr.heap.size
  nn : rs = [] → A2 = none
section
variable {w wr w2 : World} {base p : List UInt8} {A1 A2 A9 : Option Addr} {c1 c2 c9 : Nat} {rs : List (List UInt8)}
theorem Lg.below (h : Lg w wr base A1 c1 rs A2 c2) (hb : Below wr.heap.size wr w2) : Lg w w2 base A1 c1 rs A2 c2 :=
  ⟨kept hb h.x0, kept hb h.x1, fun j => (hb.frozen (p := ⟨w.heap.size, j, none⟩) h.lt).trans (h.fr j), h.ob.below hb, h.rw_.below hb, h.ne, h.bel.trans (hb.mono (Nat.le_of_lt h.lt)), Nat.lt_of_lt_of_le h.lt hb.size, h.nn⟩
theorem Lg.setBase (h : Lg w wr base A1 c1 [] A2 c2) (hn : (Value.slice A2 0 c2).ownBlock = none) (ho : Ob wr (w.heap.size + 1) (.slice A9 p.length c9) p) : Lg w (wr.setCell ⟨w.heap.size, 0, none⟩ (.slice A9 p.length c9)) p A9 c9 [] A2 c2 := by
  have t := Tn.setCell wr w.heap.size 0 (.slice A9 p.length c9)
  have hlt := h.lt
  refine ⟨by simp [go_sem, h.x0], by simpa [go_sem] using h.x1, fun j => by simp [go_sem, h.fr], t.ob ho fun g hg e => ?_, h.rw_.tn t fun k hk e => by omega, fun g hg => ?_, t.bel h.bel (fun k hk => by omega) (Nat.le_refl _), Nat.lt_of_lt_of_le h.lt t.size, h.nn⟩
  · have := (ho.lt g hg).1
    omega
  · have h9 : (Value.slice A2 0 c2).ownBlock = some g := hg
    rw [hn] at h9
    cases h9
theorem Lg.push (h : Lg w wr base A1 c1 rs A2 c2) (hr : Rw w2 (w.heap.size + 1) 32 (.slice A9 (rs.length + 1) c9) (rs ++ [p])) (hg : wr.grownBy w2 (Value.slice A2 rs.length c2).ownBlock) (hat : ∀ g, (Value.slice A9 (rs.length + 1) c9).ownBlock = some g → (Value.slice A2 rs.length c2).ownBlock = some g ∨ wr.heap.size ≤ g) :
    Lg w (w2.setCell ⟨w.heap.size, 1, none⟩ (.slice A9 (rs.length + 1) c9)) base A1 c1 (rs ++ [p]) A9 c9 := by
  have hlt := h.lt
  have t0 : Tn (fun k => (Value.slice A2 rs.length c2).ownBlock = some k) wr w2 := Tn.ofGrown hg |>.mono fun k _ e => e.symm
  have t1 := Tn.setCell w2 w.heap.size 1 (.slice A9 (rs.length + 1) c9)
  have hP : ¬ (Value.slice A2 rs.length c2).ownBlock = some w.heap.size := fun e => by have := (h.rw_.lt _ e).1; omega
  have y0 := t0.cell h.x0 hP
  have y1 := t0.cell h.x1 hP
  have yf : ∀ j, w2.frozen? ⟨w.heap.size, j, none⟩ = false := fun j => (t0.frozen (p := ⟨w.heap.size, j, none⟩) hlt hP).trans (h.fr j)
  have o1 := t0.ob h.ob fun g hg e => h.ne g e hg
  have hl : (rs ++ [p]).length = rs.length + 1 := by simp
  refine ⟨by simp [go_sem, y0], by rw [hl]; simp [go_sem, y1], fun j => by simp [go_sem, yf], t1.ob o1 fun g hg e => ?_, by rw [hl]; exact hr.tn t1 fun k hk e => by omega, fun g hg e => ?_, t1.bel (t0.bel h.bel (fun k hk => by have := (h.rw_.lt k hk).1; omega) (Nat.le_refl _)) (fun k hk => by omega) (Nat.le_refl _), Nat.lt_of_lt_of_le hlt (Nat.le_trans t0.size t1.size), fun e => by simp at e⟩
  · have := (o1.lt g hg).1
    omega
  · rw [hl] at hg
    rcases hat g hg with h9 | h9
    · exact h.ne g h9 e
    · have := (h.ob.lt g e).2
      omega
end
set_option maxRecDepth 100000 in
set_option maxHeartbeats 6400000 in
theorem read_any (K : Nat) (A : Option Addr) (cap : Nat) (b : List UInt8) (w : World) (hb : Bs w K A cap b) (hK : K ≤ w.heap.size) (hl : b.length ≤ 1099511627776) :
    Calls Try.prog 53 #[.slice A b.length cap] w (ReadPost w b) := by
  have hle := hb.le
  have hmax := hb.max
  unfold maxLen at hmax
  go_enter Try.func53, Try.ntmps53
  go_wp2
  go_step3
  go_wp2
  go_step3
  go_wp2
  go_loopw [4, 5] (fun nv sv wr => ∃ (n : Nat) (s : Bool) (base : List UInt8) (rs : List (List UInt8)) (A1 : Option Addr) (c1 : Nat) (A2 : Option Addr) (c2 : Nat), nv = .int .i64 (n : Int) ∧ sv = .bool s ∧ Hid (St b n s base rs) ∧ Hid (Lg w wr base A1 c1 rs A2 c2)) (fun nv _ _ => b.length - (intOf nv).toNat)
  case atStart => exact ⟨0, false, [], [], none, 0, none, 0, rfl, rfl, Lib.hid (St.zero b), Lib.hid ⟨by simp [go_sem], by simp [go_sem], fun j => by simp [go_sem], Ob.empty _ _, Rw.empty _ _ _, fun g h => by simp [Value.ownBlock] at h, (Below.refl _ _).alloc (Nat.le_refl _) _, by simp, fun _ => rfl⟩⟩
  case round =>
    obtain ⟨n, s, base, rs, A1, c1, A2, c2, rfl, rfl, HS, HX0⟩ := hrel
    rename World => y0
    have hn := HS.out.le
    have hsl := slice_from A b.length cap n hn
    have hbr : Bs y0 K _ _ _ := (hb.below (HX0.out.bel.mono hK)).cut (i := n) (j := b.length) hn (Nat.le_refl _)
    have hd : (b.drop n).take (b.length - n) = b.drop n := List.take_of_length_le (by simp)
    rw [hd] at hbr
    have hdl : (b.drop n).length = b.length - n := List.length_drop
    generalize (if cap = n then A else A.map (·.add n)) = AJ at *
    have hz0 := HX0.out.bel.size
    have hco := open_any K (cap - n) (b.drop n) y0 AJ hbr (by omega)
    rw [hdl] at hco
    have HCO := Lib.hid hco
    clear hco hbr hd
    go_wp2_with fail
    refine HCO.out.mono ?_
    rintro e y1 ⟨A9, c9, rfl, ob9, b9⟩
    have HX := Lib.hid (HX0.out.below b9)
    have x0 := HX.out.x0
    have x1 := HX.out.x1
    have xf := HX.out.fr
    have hyl := HX.out.lt
    have HEB : Hid (∀ u v, Below w.heap.size w ((y1.setCell ⟨w.heap.size, 0, none⟩ u).setCell ⟨w.heap.size, 1, none⟩ v)) := Lib.hid fun u v => (HX.out.bel.setCell (p := ⟨w.heap.size, 0, none⟩) (Nat.le_refl _) u).setCell (p := ⟨w.heap.size, 1, none⟩) (Nat.le_refl _) v
    have HEO : Hid (∀ u v, Ob ((y1.setCell ⟨w.heap.size, 0, none⟩ u).setCell ⟨w.heap.size, 1, none⟩ v) w.heap.size (.slice A1 base.length c1) base) := Lib.hid fun u v => (((Tn.setCell y1 w.heap.size 0 u).then (Tn.setCell _ w.heap.size 1 v)).ob HX.out.ob fun g hg e => by have := (HX.out.ob.lt g hg).1; omega).more (Nat.le_succ _)
    have HER : Hid (∀ u v, Rw ((y1.setCell ⟨w.heap.size, 0, none⟩ u).setCell ⟨w.heap.size, 1, none⟩ v) w.heap.size 32 (.slice A2 rs.length c2) rs) := Lib.hid fun u v => (HX.out.rw_.tn ((Tn.setCell y1 w.heap.size 0 u).then (Tn.setCell _ w.heap.size 1 v)) fun k hk e => by omega).more (Nat.le_succ _)
    have HST0 : True := trivial
    clear HCO b9 hsl
    cases s
    · by_cases ho : (openB (b.drop n)).2.2.2 = 0
      · have hu := openB_used ho
        rw [hdl] at hu
        have hu1 := hu.1
        have hu2 := hu.2.1
        clear hu
        by_cases k2 : (openB (b.drop n)).1 = 2
        · by_cases hn0 : n = 0
          · subst hn0
            have hz : base = [] ∧ rs = [] := by
              rcases HS.out.st with ⟨_, _, h1, h2⟩ | ⟨h9, _⟩
              · exact ⟨h1, h2⟩
              · omega
            obtain ⟨rfl, rfl⟩ := hz
            have hbo : b.drop 0 = b := rfl
            rw [hbo] at ho k2 hu1 hu2 ⊢
            have HNX := Lib.hid (St.first ho k2)
            have HX9 : Hid (Ob y1 (w.heap.size + 1) (.slice A9 (openB b).2.1.length c9) (openB b).2.1) := Lib.hid (by rw [hbo] at ob9; exact ob9.more (by have := HX0.out.lt; omega))
            have HNO : Hid ((Value.slice A2 0 c2).ownBlock = none) := Lib.hid (by rw [HX.out.nn rfl]; rfl)
            have HFIN := Lib.hid (HX.out.setBase HNO.out HX9.out)
            clear ob9 HX9 HX0 HS HST0
            generalize openB b = o at *
            obtain ⟨k, p, u, er⟩ := o
            simp only at ho k2 hu1 hu2 HNX HFIN ⊢
            subst ho k2
            go_wp2_with fail
            go_roundw
            case rel => exact ⟨u, false, p, [], A9, c9, A2, c2, by go_num, rfl, HNX, HFIN⟩
            case measure => simp [intOf]; omega
          · have HST := Lib.hid (HS.out.stop (by omega) (walGo_else ho (by rw [k2]; decide) (fun h => absurd (k2.symm.trans h.1) (by decide))))
            have n0 : ((n : Int) == 0) = false := by simpa using hn0
            clear ob9 HX0 HS HST0 hn0
            generalize openB (b.drop n) = o at *
            obtain ⟨k, p, u, er⟩ := o
            simp only at ho k2 hu1 hu2
            subst ho k2
            have HSN : Hid (readB b = none) := HST
            clear HST HX
            go_wp2_with fail
            (try rw [Exit.noGoto_ret])
            refine bodyPost_ret (v := .tuple #[.agg #[.slice none 0 0, .slice none 0 0], .int .i64 0]) (by simp [results, Try.results53, go_sem, x0, x1]) rfl ?_
            exact ⟨HEB.out _ _, .inl ⟨HSN.out, rfl⟩⟩
        · have kk2 : (((openB (b.drop n)).1.toNat : Int) == 2) = false := by
            have : ¬ (openB (b.drop n)).1.toNat = 2 := fun h => k2 (UInt8.toNat_inj.1 h)
            simp; omega
          by_cases hn0 : n = 0
          · subst hn0
            have HST : Hid (readB b = fin false 0 base rs) := Lib.hid (St.none_ fun h => k2 h.2)
            clear ob9 HX0 HS HST0
            generalize openB (b.drop 0) = o at *
            obtain ⟨k, p, u, er⟩ := o
            simp only at ho k2 kk2 hu1 hu2
            subst ho
            clear k2
            have HSN : Hid (readB b = none) := HST
            clear HST HX
            go_wp2_with fail
            (try rw [Exit.noGoto_ret])
            refine bodyPost_ret (v := .tuple #[.agg #[.slice none 0 0, .slice none 0 0], .int .i64 0]) (by simp [results, Try.results53, go_sem, x0, x1]) rfl ?_
            exact ⟨HEB.out _ _, .inl ⟨HSN.out, rfl⟩⟩
          · have n0 : ((n : Int) == 0) = false := by simpa using hn0
            by_cases k1 : (openB (b.drop n)).1 = 1
            · have HNX := Lib.hid (HS.out.rec_ (by omega) ho k1)
              have hne : ∀ ad : Addr, A9 = some ad → 0 < (openB (b.drop n)).2.1.length → w.heap.size + 1 ≤ ad.block ∧ (Value.slice A2 rs.length c2).ownBlock ≠ some ad.block := fun ad e _ => by
                have h2 := (ob9.lt ad.block (by rw [e]; rfl)).1
                exact ⟨by have := HX0.out.lt; omega, fun he => by have h1 := (HX0.out.rw_.lt _ he).2; omega⟩
              have HNE := Lib.hid hne
              have hnum := HS.out.num
              have HOB9 := Lib.hid ob9
              clear ob9 hne HX0 HS HST0 kk2 k2 hn0
              generalize openB (b.drop n) = o at *
              obtain ⟨k, p, u, er⟩ := o
              simp only at ho k1 hu1 hu2 HNX HNE HOB9
              subst ho k1
              go_wp2_with (at_builtin; refine wpList_pushR Try.underlying38 info_bsl rfl _ rfl (.tmp 36) (.tmp 38) rfl (w.heap.size + 1) (.slice A2 rs.length c2) rs rfl HX.out.rw_ p A9 c9 y1.heap.size rfl rfl HOB9.out.bs.1 HNE.out (rs.length + 1) rfl (by omega) (by have := HX.out.lt; omega) ?_; intro A8 c8 y2 hr8 hg8 hat8; have HFIN := Lib.hid (HX.out.push hr8 hg8 hat8); have t8 : Tn (fun k => (Value.slice A2 rs.length c2).ownBlock = some k) y1 y2 := (Tn.ofGrown hg8).mono (fun k _ e => e.symm); have hP8 : ¬ (Value.slice A2 rs.length c2).ownBlock = some w.heap.size := (fun e => by have := (HX.out.rw_.lt _ e).1; omega); have u1 := t8.cell x1 hP8; have uf := (t8.frozen (p := ⟨w.heap.size, 1, none⟩) HX.out.lt hP8).trans (xf 1); clear hr8 hg8 hat8 t8 hP8)
              go_roundw
              case rel => exact ⟨n + u, false, base, rs ++ [p], A1, c1, A8, c8, by go_num, rfl, HNX, HFIN⟩
              case measure => simp [intOf]; omega
            · have kk1 : (((openB (b.drop n)).1.toNat : Int) == 1) = false := by
                have : ¬ (openB (b.drop n)).1.toNat = 1 := fun h => k1 (UInt8.toNat_inj.1 h)
                simp; omega
              by_cases k3 : (openB (b.drop n)).1 = 3
              · have HNX := Lib.hid (HS.out.seal_ (by omega) ho k3)
                clear ob9 HX0 HS HST0 kk1 kk2 k1 k2 hn0
                generalize openB (b.drop n) = o at *
                obtain ⟨k, p, u, er⟩ := o
                simp only at ho k3 hu1 hu2 HNX
                subst ho k3
                go_wp2_with fail
                go_roundw
                case rel => exact ⟨n + u, true, base, rs, A1, c1, A2, c2, by go_num, rfl, HNX, HX⟩
                case measure => simp [intOf]; omega
              · have kk3 : (((openB (b.drop n)).1.toNat : Int) == 3) = false := by
                  have : ¬ (openB (b.drop n)).1.toNat = 3 := fun h => k3 (UInt8.toNat_inj.1 h)
                  simp; omega
                have HST := Lib.hid (HS.out.stop (by omega) (walGo_else ho k1 (fun h => k3 h.1)))
                clear ob9 HX0 HS HST0 hn0 k1 k2 k3
                generalize openB (b.drop n) = o at *
                obtain ⟨k, p, u, er⟩ := o
                simp only at ho kk1 kk2 kk3 hu1 hu2
                subst ho
                have HSN : Hid (readB b = none) := HST
                clear HST HX
                go_wp2_with fail
                (try rw [Exit.noGoto_ret])
                refine bodyPost_ret (v := .tuple #[.agg #[.slice none 0 0, .slice none 0 0], .int .i64 0]) (by simp [results, Try.results53, go_sem, x0, x1]) rfl ?_
                exact ⟨HEB.out _ _, .inl ⟨HSN.out, rfl⟩⟩
      · have HST : Hid (readB b = fin false n base rs) := Lib.hid (by
          by_cases hn0 : n = 0
          · subst hn0
            rcases HS.out.st with ⟨_, h1, _⟩ | ⟨h9, _⟩
            · rw [St.none_ (b := b) (fun h => ho h.1)]; rfl
            · omega
          · exact HS.out.stop (by omega) (walGo_bad ho))
        clear ob9 HX0 HS HST0
        generalize openB (b.drop n) = o at *
        obtain ⟨k, p, u, er⟩ := o
        simp only at ho
        have he : ((er : Int) == 0) = false := by simp; omega
        clear ho
        have HSN : Hid (readB b = none) := HST
        clear HST HX
        go_wp2_with fail
        (try rw [Exit.noGoto_ret])
        refine bodyPost_ret (v := .tuple #[.agg #[.slice none 0 0, .slice none 0 0], .int .i64 0]) (by simp [results, Try.results53, go_sem, x0, x1]) rfl ?_
        exact ⟨HEB.out _ _, .inl ⟨HSN.out, rfl⟩⟩
    · by_cases ho : (openB (b.drop n)).2.2.2 = 0
      · have hu := openB_used ho
        rw [hdl] at hu
        have hu1 := hu.1
        have hu2 := hu.2.1
        clear hu
        by_cases k2 : (openB (b.drop n)).1 = 2
        · by_cases hn0 : n = 0
          · exact absurd hn0 (by have := HS.out.st; rcases this with ⟨_, h, _⟩ | ⟨h, _⟩; exact absurd h (by decide); omega)
          · have HST := Lib.hid (HS.out.stop (by omega) (walGo_else ho (by rw [k2]; decide) (fun h => absurd (k2.symm.trans h.1) (by decide))))
            have n0 : ((n : Int) == 0) = false := by simpa using hn0
            clear ob9 HX0 HS HST0 hn0
            generalize openB (b.drop n) = o at *
            obtain ⟨k, p, u, er⟩ := o
            simp only at ho k2 hu1 hu2
            subst ho k2
            have HSN : Hid (readB b = some (base, rs, n)) := HST
            clear HST
            go_wp2_with fail
            (try rw [Exit.noGoto_ret])
            refine bodyPost_ret (v := .tuple #[.agg #[.slice A1 base.length c1, .slice A2 rs.length c2], .int .i64 (n : Int)]) (by simp [results, Try.results53, go_sem, x0, x1]) rfl ?_
            exact ⟨HEB.out _ _, .inr ⟨base, rs, n, A1, c1, A2, c2, HSN.out, rfl, HEO.out _ _, HER.out _ _⟩⟩
        · have kk2 : (((openB (b.drop n)).1.toNat : Int) == 2) = false := by
            have : ¬ (openB (b.drop n)).1.toNat = 2 := fun h => k2 (UInt8.toNat_inj.1 h)
            simp; omega
          by_cases hn0 : n = 0
          · exact absurd hn0 (by have := HS.out.st; rcases this with ⟨_, h, _⟩ | ⟨h, _⟩; exact absurd h (by decide); omega)
          · have n0 : ((n : Int) == 0) = false := by simpa using hn0
            by_cases k1 : (openB (b.drop n)).1 = 1
            · have HNX := Lib.hid (HS.out.rec_ (by omega) ho k1)
              have hne : ∀ ad : Addr, A9 = some ad → 0 < (openB (b.drop n)).2.1.length → w.heap.size + 1 ≤ ad.block ∧ (Value.slice A2 rs.length c2).ownBlock ≠ some ad.block := fun ad e _ => by
                have h2 := (ob9.lt ad.block (by rw [e]; rfl)).1
                exact ⟨by have := HX0.out.lt; omega, fun he => by have h1 := (HX0.out.rw_.lt _ he).2; omega⟩
              have HNE := Lib.hid hne
              have hnum := HS.out.num
              have HOB9 := Lib.hid ob9
              clear ob9 hne HX0 HS HST0 kk2 k2 hn0
              generalize openB (b.drop n) = o at *
              obtain ⟨k, p, u, er⟩ := o
              simp only at ho k1 hu1 hu2 HNX HNE HOB9
              subst ho k1
              go_wp2_with (at_builtin; refine wpList_pushR Try.underlying38 info_bsl rfl _ rfl (.tmp 36) (.tmp 38) rfl (w.heap.size + 1) (.slice A2 rs.length c2) rs rfl HX.out.rw_ p A9 c9 y1.heap.size rfl rfl HOB9.out.bs.1 HNE.out (rs.length + 1) rfl (by omega) (by have := HX.out.lt; omega) ?_; intro A8 c8 y2 hr8 hg8 hat8; have HFIN := Lib.hid (HX.out.push hr8 hg8 hat8); have t8 : Tn (fun k => (Value.slice A2 rs.length c2).ownBlock = some k) y1 y2 := (Tn.ofGrown hg8).mono (fun k _ e => e.symm); have hP8 : ¬ (Value.slice A2 rs.length c2).ownBlock = some w.heap.size := (fun e => by have := (HX.out.rw_.lt _ e).1; omega); have u1 := t8.cell x1 hP8; have uf := (t8.frozen (p := ⟨w.heap.size, 1, none⟩) HX.out.lt hP8).trans (xf 1); clear hr8 hg8 hat8 t8 hP8)
              go_roundw
              case rel => exact ⟨n + u, true, base, rs ++ [p], A1, c1, A8, c8, by go_num, rfl, HNX, HFIN⟩
              case measure => simp [intOf]; omega
            · have kk1 : (((openB (b.drop n)).1.toNat : Int) == 1) = false := by
                have : ¬ (openB (b.drop n)).1.toNat = 1 := fun h => k1 (UInt8.toNat_inj.1 h)
                simp; omega
              by_cases k3 : (openB (b.drop n)).1 = 3
              · have HST := Lib.hid (HS.out.stop (by omega) (walGo_else ho k1 (fun h => absurd h.2 (by decide))))
                clear ob9 HX0 HS HST0 kk1 kk2 k1 k2 hn0
                generalize openB (b.drop n) = o at *
                obtain ⟨k, p, u, er⟩ := o
                simp only at ho k3 hu1 hu2
                subst ho k3
                have HSN : Hid (readB b = some (base, rs, n)) := HST
                clear HST
                go_wp2_with fail
                (try rw [Exit.noGoto_ret])
                refine bodyPost_ret (v := .tuple #[.agg #[.slice A1 base.length c1, .slice A2 rs.length c2], .int .i64 (n : Int)]) (by simp [results, Try.results53, go_sem, x0, x1]) rfl ?_
                exact ⟨HEB.out _ _, .inr ⟨base, rs, n, A1, c1, A2, c2, HSN.out, rfl, HEO.out _ _, HER.out _ _⟩⟩
              · have kk3 : (((openB (b.drop n)).1.toNat : Int) == 3) = false := by
                  have : ¬ (openB (b.drop n)).1.toNat = 3 := fun h => k3 (UInt8.toNat_inj.1 h)
                  simp; omega
                have HST := Lib.hid (HS.out.stop (by omega) (walGo_else ho k1 (fun h => k3 h.1)))
                clear ob9 HX0 HS HST0 hn0 k1 k2 k3
                generalize openB (b.drop n) = o at *
                obtain ⟨k, p, u, er⟩ := o
                simp only at ho kk1 kk2 kk3 hu1 hu2
                subst ho
                have HSN : Hid (readB b = some (base, rs, n)) := HST
                clear HST
                go_wp2_with fail
                (try rw [Exit.noGoto_ret])
                refine bodyPost_ret (v := .tuple #[.agg #[.slice A1 base.length c1, .slice A2 rs.length c2], .int .i64 (n : Int)]) (by simp [results, Try.results53, go_sem, x0, x1]) rfl ?_
                exact ⟨HEB.out _ _, .inr ⟨base, rs, n, A1, c1, A2, c2, HSN.out, rfl, HEO.out _ _, HER.out _ _⟩⟩
      · have HST : Hid (readB b = fin true n base rs) := Lib.hid (by
          by_cases hn0 : n = 0
          · subst hn0
            rcases HS.out.st with ⟨_, h1, _⟩ | ⟨h9, _⟩
            · cases h1
            · omega
          · exact HS.out.stop (by omega) (walGo_bad ho))
        clear ob9 HX0 HS HST0
        generalize openB (b.drop n) = o at *
        obtain ⟨k, p, u, er⟩ := o
        simp only at ho
        have he : ((er : Int) == 0) = false := by simp; omega
        clear ho
        have HSN : Hid (readB b = some (base, rs, n)) := HST
        clear HST
        go_wp2_with fail
        (try rw [Exit.noGoto_ret])
        refine bodyPost_ret (v := .tuple #[.agg #[.slice A1 base.length c1, .slice A2 rs.length c2], .int .i64 (n : Int)]) (by simp [results, Try.results53, go_sem, x0, x1]) rfl ?_
        exact ⟨HEB.out _ _, .inr ⟨base, rs, n, A1, c1, A2, c2, HSN.out, rfl, HEO.out _ _, HER.out _ _⟩⟩
end Go.Proofs.Ytkkaehaoahpibaa
namespace Go.Proofs.Ytkkaehaoahpibaa
open Go.RowKit Go.BigFrame

theorem Pz.addr {w : World} {K n c : Nat} {T : TypeId} {A : Option Addr} {ps : List Pc} (h : Pz w K T (.slice A n c) ps) (hl : 0 < ps.length) : ∃ g, A = some ⟨g, 0, none⟩ := by
  obtain ⟨xs, ho, _⟩ := h
  rcases ho.2 with ⟨_, h0⟩ | ⟨g, cap', cur, he, _⟩
  · omega
  · injection he with h1 _ _
    exact ⟨g, h1⟩
theorem Pz.slot {w : World} {K n c g i : Nat} {T : TypeId} {ps : List Pc} {k : UInt8} {p : List UInt8} (h : Pz w K T (.slice (some ⟨g, 0, none⟩) n c) ps) (hi : ps[i]? = some (k, p)) : w.cell? ⟨g, i * 2, none⟩ = some (.int .u8 (k.toNat : Int)) ∧ ∃ A c', w.cell? ⟨g, i * 2 + 1, none⟩ = some (.slice A p.length c') ∧ Bs w w.heap.size A c' p ∧ ∀ ad : Addr, A = some ad → 0 < p.length → K ≤ ad.block ∧ g ≠ ad.block := by
  obtain ⟨xs, ho, hx⟩ := h
  obtain ⟨h1, A, c', h2, h3, h4⟩ := hx i k p hi
  have e : ∀ j, (⟨g, 0, none⟩ : Addr).add j = ⟨g, j, none⟩ := fun j => by unfold Addr.add; split <;> simp_all
  have y1 := ho.cells (g := g) rfl _ _ h1
  have y2 := ho.cells (g := g) rfl _ _ h2
  rw [e] at y1 y2
  exact ⟨y1, A, c', y2, h3, fun ad e9 hl => ⟨(h4 ad e9 hl).1, fun h9 => (h4 ad e9 hl).2 (by rw [h9]; rfl)⟩⟩
/-- Bytes in memory of a call's own, from the block K on. -/
structure Bk (w : World) (K : Nat) (A : Option Addr) (c : Nat) (p : List UInt8) : Prop where
  bs : Bs w w.heap.size A c p
  ge : ∀ ad : Addr, A = some ad → 0 < p.length → K ≤ ad.block
theorem Bk.tn {P : Nat → Prop} {w w' : World} {K c : Nat} {A : Option Addr} {p : List UInt8} (h : Bk w K A c p) (t : Tn P w w') (hn : ∀ k, K ≤ k → ¬ P k) : Bk w' K A c p :=
  ⟨(t.bs h.bs fun hl ad e => hn _ (h.ge ad e hl)).more t.size, h.ge⟩
theorem Bk.below {w w' : World} {K c : Nat} {A : Option Addr} {p : List UInt8} (h : Bk w K A c p) (hb : Below w.heap.size w w') : Bk w' K A c p := h.tn (Tn.ofNew (P := fun _ => False) hb) fun _ _ h => h
def StandsP (w : World) (b : List UInt8) (e : Ending) (w' : World) : Prop :=
  Below w.heap.size w w' ∧ ((readB b = none ∧ e = .returned (.tuple #[.slice none 0 0, .slice none 0 0, .int .i64 0, .bool false])) ∨
    ∃ base rs n A1 c1 A2 c2, readB b = some (base, rs, n) ∧ e = .returned (.tuple #[.slice A1 base.length c1, .slice A2 rs.length c2, .int .i64 (n : Nat), .bool true]) ∧ Bk w' w.heap.size A1 c1 base ∧ Rw w' w.heap.size 32 (.slice A2 rs.length c2) rs)
theorem scan_bounds : ∀ (m : Nat) (l : List UInt8), l.length ≤ m → ∀ x ∈ (scanB l).1, x.2.length ≤ 1048576
  | 0, l, h => by
    have : l = [] := List.eq_nil_of_length_eq_zero (by omega)
    subst this
    rw [scanB_nil]
    exact fun x hx => by cases hx
  | m + 1, l, h => by
    by_cases h0 : (openB l).2.2.2 = 0
    · have hu := openB_used h0
      rw [scanB_ok h0]
      intro x hx
      rcases List.mem_cons.1 hx with rfl | hx
      · exact hu.2.2.1
      · exact scan_bounds m (l.drop (openB l).2.2.1) (by rw [List.length_drop]; omega) x hx
    · rw [scanB_no h0]
      exact fun x hx => by cases hx
def sealsV (s : Bool) : Int := if s = true then 1 else 0
set_option maxRecDepth 100000 in
set_option maxHeartbeats 6400000 in
theorem stands_any (K : Nat) (A : Option Addr) (cap : Nat) (b : List UInt8) (w : World) (hb : Bs w K A cap b) (hK : K ≤ w.heap.size) (hl : b.length ≤ 1099511627776) :
    Calls Try.prog 32 #[.slice A b.length cap] w (StandsP w b) := by
  have hle := hb.le
  have HC := Lib.hid (refScan_any K A cap b w hb hK hl)
  have hrd := readB_P b
  have hsl := scanB_len b
  have hsu := scanB_used b
  have HRD := Lib.hid hrd
  have hpl : Hid (∀ x ∈ (scanB b).1, x.2.length ≤ 1048576) := Lib.hid (scan_bounds _ b (Nat.le_refl _))
  clear hb hrd
  go_enter Try.func32, Try.ntmps32
  go_wp2_with fail
  refine HC.out.mono ?_
  rintro e w1 ⟨A1, c1, rfl, pz, b1⟩
  have hn9 : (scanB b).1.length * 9 ≤ 1099511627776 := by omega
  generalize scanB b = sb at *
  obtain ⟨ps, un⟩ := sb
  simp only at pz HRD hpl hn9 hsu ⊢
  have HPZ := Lib.hid pz
  have HB1 := Lib.hid b1
  have hcl := pz.pr.1.le
  have hcm := pz.pr.1.max
  unfold maxLen at hcm
  clear pz b1 HC hsl
  by_cases h0 : 0 < ps.length
  · obtain ⟨g, rfl⟩ := HPZ.out.addr h0
    obtain ⟨⟨k0, p0⟩, hp0⟩ : ∃ x, ps[0]? = some x := ⟨_, List.getElem?_eq_getElem h0⟩
    obtain ⟨x0, A0, c0, x1, b0, g0⟩ := HPZ.out.slot hp0
    rw [Nat.zero_mul, Nat.zero_add] at x1
    rw [Nat.zero_mul] at x0
    have HBK0 : Hid (Bk w1 w.heap.size A0 c0 p0) := Lib.hid ⟨b0, fun ad e hl => (g0 ad e hl).1⟩
    have e0 : ((ps.length : Int) == 0) = false := beq_false_of_ne (by omega)
    have hp0l : p0.length ≤ 1048576 := hpl.out _ (List.mem_of_getElem? hp0)
    have hcl0 := b0.le
    obtain ⟨r0, hps⟩ : ∃ r0, ps = (k0, p0) :: r0 := by
      cases ps with
      | nil => simp at h0
      | cons x r0 => simp at hp0; subst hp0; exact ⟨r0, rfl⟩
    by_cases hk2 : k0 = 2
    · have HR2 : Hid (readB b = if (walP r0 false (9 + p0.length)).2.1 = true then some (p0, (walP r0 false (9 + p0.length)).1, (walP r0 false (9 + p0.length)).2.2) else none) := Lib.hid (by rw [HRD.out, hps]; simp only [readP, if_pos hk2])
      have HSP : Hid (Sp ps 1 false (9 + p0.length) [] r0 (9 + p0.length)) := Lib.hid ⟨by rw [hps]; simp⟩
      subst hk2
      clear hps b0 g0 hp0 HRD
      have hz1 := HB1.out.size
      go_wp2_with fail
--BEGIN
      have hgl : g < w1.heap.size := World.block_lt_of_cell? _ _ x0
      go_loopw [11, 9, 8, 10] (fun iv zv nv rv wr => ∃ (i : Nat) (s : Bool) (n : Nat) (rs : List (List UInt8)) (A2 : Option Addr) (c2 : Nat), iv = .int .i64 (i : Int) ∧ zv = .int .i64 (sealsV s) ∧ nv = .int .i64 (n : Int) ∧ rv = .slice A2 rs.length c2 ∧ 1 ≤ i ∧ i ≤ ps.length ∧ n ≤ i * 1048585 ∧ rs.length ≤ i ∧ Hid (Sp ps i s n rs r0 (9 + p0.length)) ∧ Hid (Rw wr w.heap.size 32 (.slice A2 rs.length c2) rs) ∧ Hid (∀ g, (Value.slice A2 rs.length c2).ownBlock = some g → w1.heap.size ≤ g) ∧ Hid (Below w1.heap.size w1 wr)) (fun iv _ _ _ _ => ps.length - (intOf iv).toNat)
      case atStart => exact ⟨1, false, 9 + p0.length, [], none, 0, rfl, rfl, by simp, rfl, Nat.le_refl _, h0, by omega, by simp, HSP, Lib.hid (Rw.empty _ _ _), Lib.hid (fun g h => by simp [Value.ownBlock] at h), Lib.hid (Below.refl _ _)⟩
      case round =>
        obtain ⟨i, s, n, rs, A2, c2, rfl, rfl, rfl, rfl, hi1, hi, hnb, hrs, HS, HRW, HOW, HB⟩ := hrel
        rename World => wr
        have y0 := (HB.out.cell (p := ⟨g, 0, none⟩) hgl).trans x0
        have y1 := (HB.out.cell (p := ⟨g, 1, none⟩) hgl).trans x1
        have HBE : Hid (Below w.heap.size w wr) := Lib.hid (HB1.out.trans (HB.out.mono hz1))
        have HBK := Lib.hid (HBK0.out.below HB.out)
        have hrc := HRW.out.pr.1.le
        clear HSP
        by_cases hlt : i < ps.length
        · obtain ⟨⟨k, p⟩, hkp⟩ : ∃ x, ps[i]? = some x := ⟨_, List.getElem?_eq_getElem hlt⟩
          obtain ⟨u0, A5, c5, u1, b5, g5⟩ := HPZ.out.slot hkp
          have v0 := (HB.out.cell (p := ⟨g, i * 2, none⟩) hgl).trans u0
          have v1 := (HB.out.cell (p := ⟨g, i * 2 + 1, none⟩) hgl).trans u1
          have i1 : (i : Int) < ps.length := by omega
          have i0 : 0 ≤ (i : Int) := by omega
          have hpl9 : p.length ≤ 1048576 := hpl.out _ (List.mem_of_getElem? hkp)
          have hc5 := b5.le
          have HKP := Lib.hid hkp
          have HB5 : Hid (Bs w1 w1.heap.size A5 c5 p) := Lib.hid b5
          have HG5 := Lib.hid g5
          clear u0 u1 b5 g5 hkp
          by_cases k1 : k = 1
          · have HNX := Lib.hid (HS.out.rec_ HKP.out k1)
            subst k1
            have HNE : Hid (∀ ad : Addr, A5 = some ad → 0 < p.length → w.heap.size ≤ ad.block ∧ (Value.slice A2 rs.length c2).ownBlock ≠ some ad.block) := Lib.hid fun ad e hl => ⟨(HG5.out ad e hl).1, fun h => by
              have h1 := HOW.out _ h
              obtain ⟨ad', e', hb', _⟩ := HB5.out.at_ hl
              rw [e] at e'
              cases e'
              omega⟩
            have HB5r : Hid (Bs wr wr.heap.size A5 c5 p) := Lib.hid ((HB5.out.below HB.out).more HB.out.size)
            have hzr := HBE.out.size
            cases s
            · simp only [sealsV] at *
              go_wp2_with (at_builtin; refine wpList_pushR Try.underlying38 info_bsl rfl _ rfl (.tmp 71) (.tmp 77) rfl w.heap.size (.slice A2 rs.length c2) rs rfl HRW.out p A5 c5 wr.heap.size rfl rfl HB5r.out HNE.out (rs.length + 1) rfl (by omega) (by omega) ?_; intro A8 c8 w8 rw8 gr8 hat8; have B8 : Below w1.heap.size w1 w8 := grown_below HB.out gr8 HB.out.size (fun _ h => HOW.out _ h); have HB8 := Lib.hid B8; have HRW8 := Lib.hid rw8; have HOW8 : Hid (∀ g, (Value.slice A8 (rs.length + 1) c8).ownBlock = some g → w1.heap.size ≤ g) := Lib.hid (fun g hg => (hat8 g hg).elim (HOW.out g) (fun h => Nat.le_trans HB.out.size h)); have v18 := (B8.cell (p := ⟨g, i * 2 + 1, none⟩) hgl).trans ((HB.out.cell (p := ⟨g, i * 2 + 1, none⟩) hgl).symm.trans v1); clear B8 rw8 gr8 hat8)
              go_roundw
              case rel => exact ⟨i + 1, false, n + (9 + p.length), rs ++ [p], A8, c8, by go_num, rfl, by congr 1; push_cast; omega, by simp, by omega, by omega, by omega, by simp; omega, HNX, Lib.hid (by simpa using HRW8.out), Lib.hid (by simpa using HOW8.out), HB8⟩
              case measure => simp [intOf]; omega
            · simp only [sealsV] at *
              go_wp2_with (at_builtin; refine wpList_pushR Try.underlying38 info_bsl rfl _ rfl (.tmp 71) (.tmp 77) rfl w.heap.size (.slice A2 rs.length c2) rs rfl HRW.out p A5 c5 wr.heap.size rfl rfl HB5r.out HNE.out (rs.length + 1) rfl (by omega) (by omega) ?_; intro A8 c8 w8 rw8 gr8 hat8; have B8 : Below w1.heap.size w1 w8 := grown_below HB.out gr8 HB.out.size (fun _ h => HOW.out _ h); have HB8 := Lib.hid B8; have HRW8 := Lib.hid rw8; have HOW8 : Hid (∀ g, (Value.slice A8 (rs.length + 1) c8).ownBlock = some g → w1.heap.size ≤ g) := Lib.hid (fun g hg => (hat8 g hg).elim (HOW.out g) (fun h => Nat.le_trans HB.out.size h)); have v18 := (B8.cell (p := ⟨g, i * 2 + 1, none⟩) hgl).trans ((HB.out.cell (p := ⟨g, i * 2 + 1, none⟩) hgl).symm.trans v1); clear B8 rw8 gr8 hat8)
              go_roundw
              case rel => exact ⟨i + 1, true, n + (9 + p.length), rs ++ [p], A8, c8, by go_num, rfl, by congr 1; push_cast; omega, by simp, by omega, by omega, by omega, by simp; omega, HNX, Lib.hid (by simpa using HRW8.out), Lib.hid (by simpa using HOW8.out), HB8⟩
              case measure => simp [intOf]; omega
          · have kk1 : ((k.toNat : Int) == 1) = false := by
              have : ¬ k.toNat = 1 := fun h => k1 (UInt8.toNat_inj.1 h)
              simp; omega
            by_cases k3 : k = 3
            · cases s
              · have HNX := Lib.hid (HS.out.seal_ HKP.out k3)
                subst k3
                simp only [sealsV] at *
                clear k1
                go_wp2_with fail
                go_roundw
                case rel => exact ⟨i + 1, true, n + (9 + p.length), rs, A2, c2, by go_num, rfl, by congr 1; push_cast; omega, rfl, by omega, by omega, by omega, by omega, HNX, HRW, HOW, HB⟩
                case measure => simp [intOf]; omega
              · have HST := Lib.hid (HS.out.stop HKP.out k1 (fun h => absurd h.2 (by decide)))
                subst k3
                simp only [sealsV] at *
                clear k1
                have HN : Hid (readB b = some (p0, rs, n)) := Lib.hid (by rw [HR2.out, HST.out]; rfl)
                clear HR2 HST HS
                go_wp2_with fail
                (try rw [Exit.noGoto_ret])
                refine bodyPost_ret (v := .tuple #[.slice A0 p0.length c0, .slice A2 rs.length c2, .int .i64 (n : Int), .bool true]) (by simp [results, Try.results32, go_sem]) rfl ?_
                exact ⟨HBE.out, .inr ⟨p0, rs, n, A0, c0, A2, c2, HN.out, rfl, HBK.out, HRW.out⟩⟩
            · have kk3 : ((k.toNat : Int) == 3) = false := by
                have : ¬ k.toNat = 3 := fun h => k3 (UInt8.toNat_inj.1 h)
                simp; omega
              have kn1 : ((k.toNat : Int) != 1) = true := by rw [bne, kk1]; rfl
              have kn3 : ((k.toNat : Int) != 3) = true := by rw [bne, kk3]; rfl
              have HST := Lib.hid (HS.out.stop HKP.out k1 (fun h => k3 h.1))
              clear k1 k3
              cases s
              · simp only [sealsV] at *
                have HN : Hid (readB b = none) := Lib.hid (by rw [HR2.out, HST.out]; rfl)
                clear HR2 HST HS HRW
                go_wp2_with fail
                (try rw [Exit.noGoto_ret])
                refine bodyPost_ret (v := .tuple #[.slice none 0 0, .slice none 0 0, .int .i64 0, .bool false]) (by simp [results, Try.results32, go_sem]) rfl ?_
                exact ⟨HBE.out, .inl ⟨HN.out, rfl⟩⟩
              · simp only [sealsV] at *
                have HN : Hid (readB b = some (p0, rs, n)) := Lib.hid (by rw [HR2.out, HST.out]; rfl)
                clear HR2 HST HS
                go_wp2_with fail
                (try rw [Exit.noGoto_ret])
                refine bodyPost_ret (v := .tuple #[.slice A0 p0.length c0, .slice A2 rs.length c2, .int .i64 (n : Int), .bool true]) (by simp [results, Try.results32, go_sem]) rfl ?_
                exact ⟨HBE.out, .inr ⟨p0, rs, n, A0, c0, A2, c2, HN.out, rfl, HBK.out, HRW.out⟩⟩
        · have i1 : ¬ (i : Int) < ps.length := by omega
          have HST := Lib.hid (HS.out.done (by omega))
          cases s
          · simp only [sealsV] at *
            have HN : Hid (readB b = none) := Lib.hid (by rw [HR2.out, HST.out]; rfl)
            clear HR2 HST HS HRW
            go_wp2_with fail
            (try rw [Exit.noGoto_ret])
            refine bodyPost_ret (v := .tuple #[.slice none 0 0, .slice none 0 0, .int .i64 0, .bool false]) (by simp [results, Try.results32, go_sem]) rfl ?_
            exact ⟨HBE.out, .inl ⟨HN.out, rfl⟩⟩
          · simp only [sealsV] at *
            have HN : Hid (readB b = some (p0, rs, n)) := Lib.hid (by rw [HR2.out, HST.out]; rfl)
            clear HR2 HST HS
            go_wp2_with fail
            (try rw [Exit.noGoto_ret])
            refine bodyPost_ret (v := .tuple #[.slice A0 p0.length c0, .slice A2 rs.length c2, .int .i64 (n : Int), .bool true]) (by simp [results, Try.results32, go_sem]) rfl ?_
            exact ⟨HBE.out, .inr ⟨p0, rs, n, A0, c0, A2, c2, HN.out, rfl, HBK.out, HRW.out⟩⟩
--END
    · have kk : ((k0.toNat : Int) == 2) = false := by
        have : ¬ k0.toNat = 2 := fun h => hk2 (UInt8.toNat_inj.1 h)
        simp; omega
      have HN : Hid (readB b = none) := Lib.hid (by rw [HRD.out, hps]; simp [readP, hk2])
      clear hps b0 g0 hp0 HRD hk2
      go_wp2_with fail
      refine bodyPost_ret (v := .tuple #[.slice none 0 0, .slice none 0 0, .int .i64 0, .bool false]) (by simp [results, Try.results32, go_sem]) rfl ?_
      exact ⟨HB1.out, .inl ⟨HN.out, rfl⟩⟩
  · obtain rfl : ps = [] := List.eq_nil_of_length_eq_zero (by omega)
    have HN : Hid (readB b = none) := Lib.hid (by rw [HRD.out]; rfl)
    clear HRD
    go_wp2_with fail
    refine bodyPost_ret (v := .tuple #[.slice none 0 0, .slice none 0 0, .int .i64 0, .bool false]) (by simp [results, Try.results32, go_sem]) rfl ?_
    exact ⟨HB1.out, .inl ⟨HN.out, rfl⟩⟩
end Go.Proofs.Ytkkaehaoahpibaa
namespace Go.Proofs.Ytkkaehaoahpibaa
open Go.RowKit Go.BigFrame

set_option maxRecDepth 100000 in
set_option maxHeartbeats 3200000 in
theorem whole_any (K : Nat) (A1 : Option Addr) (c1 : Nat) (base : List UInt8) (A2 : Option Addr) (c2 : Nat) (rs : List (List UInt8)) (w : World) (hb : Bs w K A1 c1 base) (hr : Rr w K A2 c2 rs) (hK : K ≤ w.heap.size) (hl : base.length ≤ 1048576) (hrl : ∀ x ∈ rs, x.length ≤ 1048576) (hsz : (framesB base rs).length ≤ 140737488355328) :
    Calls Try.prog 33 #[.slice A1 base.length c1, .slice A2 rs.length c2] w (NewB w (framesB base rs)) := by
  have hbl := hb.le
  have hrle := hr.le
  have hrm := hr.max
  unfold maxLen at hrm
  rw [framesB_len] at hsz
  have H1 := Lib.hid (refSeal_ok 2 K A1 c1 base w hb hK hl)
  have HR := Lib.hid hr
  clear hb hr
  go_enter Try.func33, Try.ntmps33
  go_wp2_with fail
  refine H1.out.mono ?_
  rintro e w1 ⟨A3, c3, rfl, ho1, hb1⟩
  have HO1 := Lib.hid ho1
  have HB1 := Lib.hid hb1
  clear ho1 hb1 H1
  go_wp2_with fail
  go_loopw [7, 5] (fun iv bw wr => ∃ (i : Nat) (A' : Option Addr) (N c' : Nat), iv = .int .i64 (i : Int) ∧ bw = .slice A' N c' ∧ N = 9 + base.length + (recsB (rs.take i)).length ∧ i ≤ rs.length ∧ Hid (Ob wr w.heap.size (.slice A' N c') (sealB 2 base ++ recsB (rs.take i))) ∧ Hid (Below w.heap.size w wr)) (fun iv _ _ => rs.length - (intOf iv).toNat)
  case atStart => exact ⟨0, A3, _, c3, rfl, rfl, by simp [recsB], Nat.zero_le _, by simpa [recsB] using HO1, HB1⟩
  case round =>
    obtain ⟨i, A4, N, c4, rfl, rfl, hN, hi, HO, HB⟩ := hrel
    rename World => wr
    have hzr := HB.out.size
    have hle2 := recsB_le rs i
    have hlen : (sealB 2 base ++ recsB (rs.take i)).length = N := by rw [List.length_append, sealB_length]; omega
    have hoc := HO.out.bs.1.le
    have hom := HO.out.bs.1.max
    unfold maxLen at hom
    by_cases hlt : i < rs.length
    · obtain ⟨ad, e2, had, A5, c5, x5, bs5⟩ := (HR.out.below (HB.out.mono hK)).get hlt
      subst e2
      have i1 : (i : Int) < rs.length := by omega
      have hx := hrl rs[i] (List.getElem_mem hlt)
      have htk := recsB_take rs hlt
      have hle3 := recsB_le rs (i + 1)
      rw [htk, List.length_append, sealB_length] at hle3
      have H2 := Lib.hid (refSeal_ok 1 K A5 c5 rs[i] wr bs5 (by omega) hx)
      have HTK := Lib.hid htk
      have hc5 := bs5.le
      generalize rs[i] = q at x5 H2 HTK hx hle3 hc5
      have HN2 : Hid (N + (9 + q.length) = 9 + base.length + (recsB (rs.take (i + 1))).length) := Lib.hid (by rw [HTK.out, List.length_append, sealB_length]; omega)
      have HLEN := Lib.hid hlen
      have HSL : Hid ((sealB 1 q).length = 9 + q.length) := Lib.hid (sealB_length 1 q)
      have hs9 : N + (9 + q.length) ≤ 140737488355328 := by omega
      clear bs5 htk hN hlen
      go_wp2_with (first
        | (go_at_call 39; refine H2.out.mono ?_; rintro e w2 ⟨A6, c6, rfl, ho2, hb2⟩; have z2 := hb2.size)
        | (at_builtin; refine wpList_app _ rfl (.tmp 31) (.tmp 32) rfl w.heap.size (.slice A4 N c4) (sealB 2 base ++ recsB (rs.take i)) rfl (HO.out.below hb2) A6 (9 + q.length) c6 (sealB 1 q) rfl HSL.out w2.heap.size ho2.bs.1 (N + (9 + q.length)) (by rw [HLEN.out, HSL.out]) (by rw [HLEN.out, HSL.out]; omega) (by omega) ?_; intro A7 c7 w3 ho3 gr3 at3; have B3 : Below w.heap.size w w3 := grown_below (HB.out.trans (hb2.mono hzr)) gr3 (by omega) (fun _ h => (HO.out.lt _ h).1)))
      have HO3 := Lib.hid ho3
      have HB3 := Lib.hid B3
      clear ho2 hb2 ho3 gr3 at3 B3
      go_roundw
      case rel => exact ⟨i + 1, A7, _, c7, by go_num, rfl, HN2.out, hlt, Lib.hid (by rw [HTK.out, ← List.append_assoc]; exact HO3.out), HB3⟩
      case measure => simp [intOf]; omega
    · obtain rfl : i = rs.length := by omega
      have hst : (sealB 2 base ++ recsB (rs.take rs.length)) = sealB 2 base ++ recsB rs := by rw [List.take_length]
      rw [hst] at HO hlen
      rw [List.take_length] at hN
      have H3 := Lib.hid (refSeal_ok 3 0 none 0 [] wr ⟨Nat.le_refl _, Nat.zero_le _, fun _ => rfl, fun h => absurd h (by simp)⟩ (Nat.zero_le _) (by simp))
      have HF : Hid ((framesB base rs).length = N + 9) := Lib.hid (by rw [framesB_len]; omega)
      have HLEN := Lib.hid hlen
      have HSL : Hid ((sealB 3 []).length = 9) := Lib.hid (sealB_length 3 [])
      have hs9 : N + 9 ≤ 140737488355328 := by omega
      clear hlen hN hle2
      go_wp2_with (first
        | (go_at_call 39; refine H3.out.mono ?_; rintro e w2 ⟨A6, c6, rfl, ho2, hb2⟩; have z2 := hb2.size)
        | (at_builtin; refine wpList_app _ rfl (.tmp 38) (.tmp 39) rfl w.heap.size (.slice A4 N c4) (sealB 2 base ++ recsB rs) rfl (HO.out.below hb2) A6 9 c6 (sealB 3 []) rfl HSL.out w2.heap.size ho2.bs.1 (N + 9) (by rw [HLEN.out, HSL.out]) (by rw [HLEN.out, HSL.out]; omega) (by omega) ?_; intro A7 c7 w3 ho3 gr3 at3; have B3 : Below w.heap.size w w3 := grown_below (HB.out.trans (hb2.mono hzr)) gr3 (by omega) (fun _ h => (HO.out.lt _ h).1)))
      go_ret
      refine ⟨A7, c7, by rw [HF.out]; rfl, ?_, B3⟩
      rw [HF.out]
      exact ho3
end Go.Proofs.Ytkkaehaoahpibaa
