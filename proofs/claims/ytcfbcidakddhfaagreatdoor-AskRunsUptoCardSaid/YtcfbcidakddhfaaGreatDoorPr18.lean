/- The program's parseRule. -/
import Derived.Test.YtcfbcidakddhfaaGreatDoorPr17
import Derived.RegionTactic
namespace Go.Proofs.YtcfbcidakddhfaaGreatDoor
open Go.RowKit

/-- strings.IndexAny finds the first sign's place in t. -/
def IdxOk (t : ByteArray) : Prop := ∀ W, Calls Tryz.prog 78 #[.string t, .string ⟨#[61, 33, 94, 42]⟩] W fun e w' => e = .returned (.int .i64 (Lib.indexAny t.data.toList sgL)) ∧ Below W.heap.size W w'
def RulePost (w : World) (r : Rp × Nat) (e : Ending) (w' : World) : Prop :=
  e = .returned (.tuple #[.agg #[.string r.1.1, .int .i64 r.1.2.1, .string r.1.2.2], .int .i64 (r.2 : Int)]) ∧ Below w.heap.size w w'
theorem ret_rule {a b c d : ByteArray} {n m p q : Int} (h : a = b) (h2 : c = d) (h3 : n = m) (h4 : p = q) : Ending.returned (.tuple #[.agg #[.string a, .int .i64 p, .string c], .int .i64 n]) = .returned (.tuple #[.agg #[.string b, .int .i64 q, .string d], .int .i64 m]) := by rw [h, h2, h3, h4]

set_option maxRecDepth 100000 in
set_option maxHeartbeats 3200000 in
theorem parseRule_any (t : ByteArray) (w : World) (hs : t.size ≤ 4000000000) (hi : IdxOk t) (hg : Sg w) : Calls Tryz.prog 58 #[.string t] w (RulePost w (partR t.data.toList)) := by
  have hl : t.data.toList.length = t.size := by simp
  have B0 : Below w.heap.size w (w.alloc (.cells #[.string ⟨#[]⟩, .int .i64 0, .string ⟨#[]⟩] 108)) := (Below.refl _ _).alloc (Nat.le_refl _) _
  have z0 : w.heap.size ≤ (w.alloc (.cells #[.string ⟨#[]⟩, .int .i64 0, .string ⟨#[]⟩] 108)).heap.size := by simp
  have hge := Lib.indexAny_ge sgL t.data.toList
  have hlt := indexAny_lt sgL t.data.toList
  unfold IdxOk at hi
  by_cases h0 : Lib.indexAny t.data.toList sgL < 0
  · have HF : Hid (partR t.data.toList = (nilR, 0)) := Lib.hid (by unfold partR; rw [if_pos h0])
    generalize Lib.indexAny t.data.toList sgL = i at *
    obtain rfl : i = -1 := by omega
    have HI := Lib.hid hi
    clear hi hge hlt hl h0
    go_enter Tryz.func58, Tryz.ntmps58
    go_wp2_with (go_at_call 78; refine (HI.out _).mono ?_; rintro e w1 ⟨rfl, hb1⟩; have m0 : w1.cell? ⟨w.heap.size, 0, none⟩ = some (.string ⟨#[]⟩) := kept hb1 (by simp); have m1 : w1.cell? ⟨w.heap.size, 1, none⟩ = some (.int .i64 0) := kept hb1 (by simp); have m2 : w1.cell? ⟨w.heap.size, 2, none⟩ = some (.string ⟨#[]⟩) := kept hb1 (by simp); have f0 : w1.frozen? ⟨w.heap.size, 0, none⟩ = false := (hb1.frozen (p := ⟨w.heap.size, 0, none⟩) (by simp)).trans (by simp); have f1 : w1.frozen? ⟨w.heap.size, 1, none⟩ = false := (hb1.frozen (p := ⟨w.heap.size, 1, none⟩) (by simp)).trans (by simp); have f2 : w1.frozen? ⟨w.heap.size, 2, none⟩ = false := (hb1.frozen (p := ⟨w.heap.size, 2, none⟩) (by simp)).trans (by simp); have B1 := B0.trans (hb1.mono z0); clear hb1)
    exact bodyPost_ret (v := .tuple #[.agg #[.string ⟨#[]⟩, .int .i64 0, .string ⟨#[]⟩], .int .i64 0]) (by simp [results, Tryz.results58, go_sem, m0, m1, m2]) rfl ⟨by rw [HF.out]; rfl, ((B1.setCell (Nat.le_refl _) _).setCell (Nat.le_refl _) _).setCell (Nat.le_refl _) _⟩
  · have hpr : partR t.data.toList = ruleAt t.data.toList (Lib.indexAny t.data.toList sgL).toNat := by unfold partR; rw [if_neg h0]
    generalize Lib.indexAny t.data.toList sgL = i at *
    obtain ⟨k, rfl⟩ : ∃ k : Nat, i = (k : Int) := ⟨i.toNat, by omega⟩
    rw [Int.toNat_natCast] at hpr
    have hkt : k < t.size := by omega
    have hN : t.extract 0 k = ⟨(t.data.toList.take k).toArray⟩ := by
      apply ByteArray.ext
      apply Array.toList_inj.1
      simp
    have hR : (t.extract k t.size).data.toList = t.data.toList.drop k := by rw [Lib.extract_data, List.take_of_length_le (by rw [List.length_drop]; omega)]
    have ho := opOf_any (t.extract k t.size)
    rw [hR] at ho
    have hol := opR_len (t.data.toList.drop k)
    rw [List.length_drop, hl] at hol
    have hsb := sgB_len (opR (t.data.toList.drop k))
    unfold ruleAt at hpr
    generalize opR (t.data.toList.drop k) = o at *
    have hso := signOf_any o
    have hsl : (⟨(sgB o).toArray⟩ : ByteArray).size = (sgB o).length := by simp [ByteArray.size]
    generalize sgB o = sg at *
    have hU : unqB (t.extract (k + sg.length) t.size) = unqL ((t.data.toList.drop k).drop sg.length) := by
      unfold unqB
      rw [Lib.extract_data, List.drop_drop, List.take_of_length_le (by rw [List.length_drop]; omega)]
    have hu := fun W => unquote_any (t.extract (k + sg.length) t.size) W (by simp; omega)
    rw [hU] at hu
    have hul := unqL_le ((t.data.toList.drop k).drop sg.length)
    rw [List.length_drop, List.length_drop, hl] at hul
    generalize unqL ((t.data.toList.drop k).drop sg.length) = u at *
    obtain ⟨uv, un⟩ := u
    unfold UnqPost at hu
    simp only at hu hul hpr
    have hNs : (t.extract 0 k).size = k := by simp; omega
    have hmk : mkR (t.data.toList.take k) o uv = (t.extract 0 k, o, ⟨uv.toArray⟩) := by rw [hN]; rfl
    rw [hmk] at hpr
    have hvs : (⟨uv.toArray⟩ : ByteArray).size = uv.length := by simp [ByteArray.size]
    have hir := fun W => isRule_any (t.extract 0 k) ⟨uv.toArray⟩ o W (by unfold maxLen; omega) (by unfold maxLen; omega)
    generalize hgs : (⟨sg.toArray⟩ : ByteArray) = sgs at *
    have HI := Lib.hid hi
    have HO := Lib.hid ho
    have HSO := Lib.hid hso
    have HU := Lib.hid hu
    have HG := Lib.hid hg
    have HIR := Lib.hid hir
    have HPR := Lib.hid hpr
    clear hi ho hso hu hg hR hU hgs hmk hvs hir hpr hNs hge hlt h0 hl hN
    generalize sg.length = sn at *
    subst hsl
    go_enter Tryz.func58, Tryz.ntmps58
    go_upto_region 4 with (go_at_call 78; refine (HI.out _).mono ?_; rintro e w1 ⟨rfl, hb1⟩; have m0 : w1.cell? ⟨w.heap.size, 0, none⟩ = some (.string ⟨#[]⟩) := kept hb1 (by simp); have m1 : w1.cell? ⟨w.heap.size, 1, none⟩ = some (.int .i64 0) := kept hb1 (by simp); have m2 : w1.cell? ⟨w.heap.size, 2, none⟩ = some (.string ⟨#[]⟩) := kept hb1 (by simp); have f0 : w1.frozen? ⟨w.heap.size, 0, none⟩ = false := (hb1.frozen (p := ⟨w.heap.size, 0, none⟩) (by simp)).trans (by simp); have f1 : w1.frozen? ⟨w.heap.size, 1, none⟩ = false := (hb1.frozen (p := ⟨w.heap.size, 1, none⟩) (by simp)).trans (by simp); have f2 : w1.frozen? ⟨w.heap.size, 2, none⟩ = false := (hb1.frozen (p := ⟨w.heap.size, 2, none⟩) (by simp)).trans (by simp); have B1 := B0.trans (hb1.mono z0); have hz1 : w.heap.size < w1.heap.size := World.block_lt_of_cell? w1 ⟨w.heap.size, 0, none⟩ m0; have G1 := Lib.hid ((HG.out.below B0).below hb1); have G2 := Lib.hid (G1.out.below ((Below.refl w1.heap.size w1).alloc (Nat.le_refl _) (.cells #[.string ⟨#[]⟩, .int .i64 0, .string ⟨#[]⟩] 108))); clear hb1)
    go_cut [5] (fun u wx => u = .pointer (some ⟨w1.heap.size, 0, none⟩) ∧ wx = (w1.alloc (.cells #[.string (t.extract 0 k), .int .i64 o, .string ⟨#[]⟩] 108)).drew)
    case first =>
      go_wp2_with fail
      go_region_with (go_at_call 79; refine (HO.out _ (by first | exact G2.out | exact G1.out)).mono ?_; rintro e w' ⟨rfl, rfl⟩)
      all_goals
        go_wp2_with fail
        go_meet
        exact ⟨rfl, rfl⟩
    case rest =>
      obtain ⟨rfl, rfl⟩ := hcut
      obtain ⟨W2, hW2⟩ : ∃ W2, W2 = (w1.alloc (.cells #[.string (t.extract 0 k), .int .i64 o, .string ⟨#[]⟩] 108)).drew := ⟨_, rfl⟩
      rw [← hW2]
      have hz2 : w1.heap.size < W2.heap.size := by rw [hW2]; simp
      have hzz : w.heap.size < W2.heap.size := by omega
      have hzw : w.heap.size ≤ W2.heap.size := by omega
      have r0 : W2.cell? ⟨w1.heap.size, 0, none⟩ = some (.string (t.extract 0 k)) := by rw [hW2]; simp
      have r1 : W2.cell? ⟨w1.heap.size, 1, none⟩ = some (.int .i64 o) := by rw [hW2]; simp
      have r2 : W2.cell? ⟨w1.heap.size, 2, none⟩ = some (.string ⟨#[]⟩) := by rw [hW2]; simp
      have rf2 : W2.frozen? ⟨w1.heap.size, 2, none⟩ = false := by rw [hW2]; simp
      have BW : Below w1.heap.size w1 W2 := by rw [hW2]; exact ((Below.refl _ _).alloc (Nat.le_refl _) _).drew
      have p0 := kept BW m0
      have p1 := kept BW m1
      have p2 := kept BW m2
      have pf0 := (BW.frozen (p := ⟨w.heap.size, 0, none⟩) hz1).trans f0
      have pf1 := (BW.frozen (p := ⟨w.heap.size, 1, none⟩) hz1).trans f1
      have pf2 := (BW.frozen (p := ⟨w.heap.size, 2, none⟩) hz1).trans f2
      have G3 := Lib.hid (G1.out.below BW)
      have B2 : Below w.heap.size w W2 := B1.trans (BW.mono (Nat.le_of_lt hz1))
      have c1 : (0 : Int) ≤ (k : Int) + sgs.size := by omega
      have c2 : (k : Int) + sgs.size ≤ t.size := by omega
      have c3 : ((k : Int) + sgs.size).toNat = k + sgs.size := by omega
      clear hW2 BW m0 m1 m2 f0 f1 f2 G1 G2 B1
      by_cases hun : un = 0
      · have HR := Lib.hid (show partR t.data.toList = (nilR, 0) by rw [HPR.out, if_pos (.inl hun)])
        subst hun
        go_wp2_with fail
        refine (HSO.out _ G3.out).mono ?_
        rintro e w' ⟨rfl, rfl⟩
        go_wp2_with fail
        refine (HU.out _).mono ?_
        rintro e w3 ⟨rfl, hb3⟩
        have q0 : w3.cell? ⟨w.heap.size, 0, none⟩ = some (.string ⟨#[]⟩) := kept hb3 p0; have q1 : w3.cell? ⟨w.heap.size, 1, none⟩ = some (.int .i64 0) := kept hb3 p1; have q2 : w3.cell? ⟨w.heap.size, 2, none⟩ = some (.string ⟨#[]⟩) := kept hb3 p2; have n0 : w3.cell? ⟨w1.heap.size, 0, none⟩ = some (.string (t.extract 0 k)) := kept hb3 r0; have n1 : w3.cell? ⟨w1.heap.size, 1, none⟩ = some (.int .i64 o) := kept hb3 r1; have n2 : w3.cell? ⟨w1.heap.size, 2, none⟩ = some (.string ⟨#[]⟩) := kept hb3 r2; have qf0 : w3.frozen? ⟨w.heap.size, 0, none⟩ = false := (hb3.frozen (p := ⟨w.heap.size, 0, none⟩) hzz).trans pf0; have qf1 : w3.frozen? ⟨w.heap.size, 1, none⟩ = false := (hb3.frozen (p := ⟨w.heap.size, 1, none⟩) hzz).trans pf1; have qf2 : w3.frozen? ⟨w.heap.size, 2, none⟩ = false := (hb3.frozen (p := ⟨w.heap.size, 2, none⟩) hzz).trans pf2; have nf2 : w3.frozen? ⟨w1.heap.size, 2, none⟩ = false := (hb3.frozen (p := ⟨w1.heap.size, 2, none⟩) hz2).trans rf2; have hz3 := hb3.size; have B3 := B2.trans (hb3.mono hzw); clear hb3
        go_wp2_with fail
        exact bodyPost_ret (v := .tuple #[.agg #[.string ⟨#[]⟩, .int .i64 0, .string ⟨#[]⟩], .int .i64 0]) (by simp [results, Tryz.results58, go_sem, q0, q1, q2]) rfl ⟨by rw [HR.out]; rfl, (((B3.setCell (Nat.le_of_lt hz1) _).setCell (Nat.le_refl _) _).setCell (Nat.le_refl _) _).setCell (Nat.le_refl _) _⟩
      · have hun1 : ((un : Int) == 0) = false := beq_eq_false_iff_ne.2 (by omega)
        cases hr : ruleB (t.extract 0 k, o, ⟨uv.toArray⟩) with
        | false =>
          have HR := Lib.hid (show partR t.data.toList = (nilR, 0) by rw [HPR.out, if_pos (.inr hr)])
          rw [hr] at HIR
          have HIR2 := Lib.hid (fun W => HIR.out W)
          clear hr HIR hun
          go_wp2_with fail
          refine (HSO.out _ G3.out).mono ?_
          rintro e w' ⟨rfl, rfl⟩
          go_wp2_with fail
          refine (HU.out _).mono ?_
          rintro e w3 ⟨rfl, hb3⟩
          have q0 : w3.cell? ⟨w.heap.size, 0, none⟩ = some (.string ⟨#[]⟩) := kept hb3 p0; have q1 : w3.cell? ⟨w.heap.size, 1, none⟩ = some (.int .i64 0) := kept hb3 p1; have q2 : w3.cell? ⟨w.heap.size, 2, none⟩ = some (.string ⟨#[]⟩) := kept hb3 p2; have n0 : w3.cell? ⟨w1.heap.size, 0, none⟩ = some (.string (t.extract 0 k)) := kept hb3 r0; have n1 : w3.cell? ⟨w1.heap.size, 1, none⟩ = some (.int .i64 o) := kept hb3 r1; have n2 : w3.cell? ⟨w1.heap.size, 2, none⟩ = some (.string ⟨#[]⟩) := kept hb3 r2; have qf0 : w3.frozen? ⟨w.heap.size, 0, none⟩ = false := (hb3.frozen (p := ⟨w.heap.size, 0, none⟩) hzz).trans pf0; have qf1 : w3.frozen? ⟨w.heap.size, 1, none⟩ = false := (hb3.frozen (p := ⟨w.heap.size, 1, none⟩) hzz).trans pf1; have qf2 : w3.frozen? ⟨w.heap.size, 2, none⟩ = false := (hb3.frozen (p := ⟨w.heap.size, 2, none⟩) hzz).trans pf2; have nf2 : w3.frozen? ⟨w1.heap.size, 2, none⟩ = false := (hb3.frozen (p := ⟨w1.heap.size, 2, none⟩) hz2).trans rf2; have hz3 := hb3.size; have B3 := B2.trans (hb3.mono hzw); clear hb3
          go_wp2_with fail
          refine (HIR2.out _).mono ?_
          rintro e w5 ⟨rfl, hb5⟩
          have v0 : w5.cell? ⟨w.heap.size, 0, none⟩ = some (.string ⟨#[]⟩) := kept hb5 (by simp [go_sem, q0])
          have v1 : w5.cell? ⟨w.heap.size, 1, none⟩ = some (.int .i64 0) := kept hb5 (by simp [go_sem, q1])
          have v2 : w5.cell? ⟨w.heap.size, 2, none⟩ = some (.string ⟨#[]⟩) := kept hb5 (by simp [go_sem, q2])
          have vf0 : w5.frozen? ⟨w.heap.size, 0, none⟩ = false := (hb5.frozen (p := ⟨w.heap.size, 0, none⟩) (by simp; omega)).trans (by simp [go_sem, qf0])
          have vf1 : w5.frozen? ⟨w.heap.size, 1, none⟩ = false := (hb5.frozen (p := ⟨w.heap.size, 1, none⟩) (by simp; omega)).trans (by simp [go_sem, qf1])
          have vf2 : w5.frozen? ⟨w.heap.size, 2, none⟩ = false := (hb5.frozen (p := ⟨w.heap.size, 2, none⟩) (by simp; omega)).trans (by simp [go_sem, qf2])
          have B5 : Below w.heap.size w w5 := (B3.setCell (Nat.le_of_lt hz1) _).trans (hb5.mono (by simp; omega))
          clear hb5
          go_wp2_with fail
          exact bodyPost_ret (v := .tuple #[.agg #[.string ⟨#[]⟩, .int .i64 0, .string ⟨#[]⟩], .int .i64 0]) (by simp [results, Tryz.results58, go_sem, v0, v1, v2]) rfl ⟨by rw [HR.out]; rfl, ((B5.setCell (Nat.le_refl _) _).setCell (Nat.le_refl _) _).setCell (Nat.le_refl _) _⟩
        | true =>
          have HR := Lib.hid (show partR t.data.toList = ((t.extract 0 k, o, ⟨uv.toArray⟩), k + sgs.size + un) by rw [HPR.out, if_neg (by rw [hr]; simp; exact hun)])
          rw [hr] at HIR
          have HIR2 := Lib.hid (fun W => HIR.out W)
          clear hr HIR hun
          go_wp2_with fail
          refine (HSO.out _ G3.out).mono ?_
          rintro e w' ⟨rfl, rfl⟩
          go_wp2_with fail
          refine (HU.out _).mono ?_
          rintro e w3 ⟨rfl, hb3⟩
          have q0 : w3.cell? ⟨w.heap.size, 0, none⟩ = some (.string ⟨#[]⟩) := kept hb3 p0; have q1 : w3.cell? ⟨w.heap.size, 1, none⟩ = some (.int .i64 0) := kept hb3 p1; have q2 : w3.cell? ⟨w.heap.size, 2, none⟩ = some (.string ⟨#[]⟩) := kept hb3 p2; have n0 : w3.cell? ⟨w1.heap.size, 0, none⟩ = some (.string (t.extract 0 k)) := kept hb3 r0; have n1 : w3.cell? ⟨w1.heap.size, 1, none⟩ = some (.int .i64 o) := kept hb3 r1; have n2 : w3.cell? ⟨w1.heap.size, 2, none⟩ = some (.string ⟨#[]⟩) := kept hb3 r2; have qf0 : w3.frozen? ⟨w.heap.size, 0, none⟩ = false := (hb3.frozen (p := ⟨w.heap.size, 0, none⟩) hzz).trans pf0; have qf1 : w3.frozen? ⟨w.heap.size, 1, none⟩ = false := (hb3.frozen (p := ⟨w.heap.size, 1, none⟩) hzz).trans pf1; have qf2 : w3.frozen? ⟨w.heap.size, 2, none⟩ = false := (hb3.frozen (p := ⟨w.heap.size, 2, none⟩) hzz).trans pf2; have nf2 : w3.frozen? ⟨w1.heap.size, 2, none⟩ = false := (hb3.frozen (p := ⟨w1.heap.size, 2, none⟩) hz2).trans rf2; have hz3 := hb3.size; have B3 := B2.trans (hb3.mono hzw); clear hb3
          go_wp2_with fail
          refine (HIR2.out _).mono ?_
          rintro e w5 ⟨rfl, hb5⟩
          have v0 : w5.cell? ⟨w.heap.size, 0, none⟩ = some (.string ⟨#[]⟩) := kept hb5 (by simp [go_sem, q0])
          have v1 : w5.cell? ⟨w.heap.size, 1, none⟩ = some (.int .i64 0) := kept hb5 (by simp [go_sem, q1])
          have v2 : w5.cell? ⟨w.heap.size, 2, none⟩ = some (.string ⟨#[]⟩) := kept hb5 (by simp [go_sem, q2])
          have x0 : w5.cell? ⟨w1.heap.size, 0, none⟩ = some (.string (t.extract 0 k)) := kept hb5 (by simp [go_sem, n0])
          have x1 : w5.cell? ⟨w1.heap.size, 1, none⟩ = some (.int .i64 o) := kept hb5 (by simp [go_sem, n1])
          have x2 : w5.cell? ⟨w1.heap.size, 2, none⟩ = some (.string ⟨uv.toArray⟩) := kept hb5 (by simp [go_sem, n2])
          have vf0 : w5.frozen? ⟨w.heap.size, 0, none⟩ = false := (hb5.frozen (p := ⟨w.heap.size, 0, none⟩) (by simp; omega)).trans (by simp [go_sem, qf0])
          have vf1 : w5.frozen? ⟨w.heap.size, 1, none⟩ = false := (hb5.frozen (p := ⟨w.heap.size, 1, none⟩) (by simp; omega)).trans (by simp [go_sem, qf1])
          have vf2 : w5.frozen? ⟨w.heap.size, 2, none⟩ = false := (hb5.frozen (p := ⟨w.heap.size, 2, none⟩) (by simp; omega)).trans (by simp [go_sem, qf2])
          have B5 : Below w.heap.size w w5 := (B3.setCell (Nat.le_of_lt hz1) _).trans (hb5.mono (by simp; omega))
          clear hb5
          have d3 : (k : Int) + sgs.size + un ≤ t.size := by omega
          go_wp2_with fail
          exact bodyPost_ret (v := .tuple #[.agg #[.string (t.extract 0 k), .int .i64 o, .string ⟨uv.toArray⟩], .int .i64 ((k : Int) + sgs.size + un)]) (by simp [results, Tryz.results58, go_sem, v0, v1, v2]) rfl ⟨by rw [HR.out]; exact ret_rule rfl rfl (by push_cast; omega) rfl, ((B5.setCell (Nat.le_refl _) _).setCell (Nat.le_refl _) _).setCell (Nat.le_refl _) _⟩
end Go.Proofs.YtcfbcidakddhfaaGreatDoor
