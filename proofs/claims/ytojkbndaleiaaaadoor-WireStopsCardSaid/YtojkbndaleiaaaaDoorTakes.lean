/- One thing, taken by the program of any bytes, and by the document of none. -/
import Derived.Test.YtojkbndaleiaaaaDoorMd
import Derived.Test.YtojkbndaleiaaaaDoorWBackM
import Derived.Deep.RegionLaw
import Derived.Deep.CutBlock
namespace Go.Proofs.YtojkbndaleiaaaaDoor
open Go.RowKit

/-- A reader of the program's at b and one of the document's at d. -/
structure Tw (w : World) (b d : Nat) : Prop where
  rd : ∃ l e, Rd w b b l e
  md : ∃ E, Md w d E
  ne : b ≠ d
  wid : Wid w
  gb : 0 < b
  gd : 0 < d
  bd : b < d
/-- What a step of the two turned. -/
abbrev P2 (b d : Nat) : Nat → Prop := fun k => k = b ∨ k = d
theorem Wid.tn {P : Nat → Prop} {w w' : World} (h : Wid w) (t : Tn P w w') (hg : ¬ P 0) : Wid w' := ⟨t.cell h.c0 hg, t.cell h.c1 hg, t.cell h.c2 hg⟩
section
variable {w w' : World} {b d : Nat}
theorem Tw.below (h : Tw w b d) (hb : Below w.heap.size w w') : Tw w' b d := by
  obtain ⟨l, e, hr⟩ := h.rd
  obtain ⟨E, hm⟩ := h.md
  exact ⟨⟨l, e, hr.below hb⟩, ⟨E, hm.below hb⟩, h.ne, h.wid.below hb, h.gb, h.gd, h.bd⟩
theorem Tw.step1 (h : Tw w b d) {l : List UInt8} {e : Int} (hs : Rst w b b l e w') : Tw w' b d := by
  obtain ⟨E, hm⟩ := h.md
  have hgb := h.gb
  exact ⟨⟨l, e, hs.rd⟩, ⟨E, hm.tn hs.tn (fun e => h.ne e.symm)⟩, h.ne, h.wid.tn hs.tn (fun e => by have e' : 0 = b := e; omega), h.gb, h.gd, h.bd⟩
theorem Tw.step2 (h : Tw w b d) {E : Int} (hs : Mst w d E w') : Tw w' b d := by
  obtain ⟨l, e, hr⟩ := h.rd
  have hgd := h.gd
  have hbd := h.bd
  exact ⟨⟨l, e, hr.tnk hs.tn (fun e => h.ne e.symm) (by omega)⟩, ⟨E, hs.md⟩, h.ne, h.wid.tn hs.tn (fun e => by have e' : 0 = d := e; omega), h.gb, h.gd, h.bd⟩
end
theorem Rst.p2 {w w' : World} {b d : Nat} {l : List UInt8} {e : Int} (h : Rst w b b l e w') : Tn (P2 b d) w w' := h.tn.mono fun _ _ e => .inl e
theorem Mst.p2 {w w' : World} {b d : Nat} {E : Int} (h : Mst w d E w') : Tn (P2 b d) w w' := h.tn.mono fun _ _ e => .inr e

theorem Rd.drewN {w : World} {K b : Nat} {l : List UInt8} {e : Int} (h : Rd w K b l e) (n : Nat) : Rd (w.drewN n) K b l e := by
  obtain ⟨A, cap, h0, h1, f0, f1, hs⟩ := h.out
  exact ⟨⟨A, cap, h0, h1, f0, f1, hs.drewN n⟩, h.kb, h.lt⟩
theorem rerr_same (K b : Nat) (l : List UInt8) (e : Int) (w : World) (h : Rd w K b l e) : Calls Tryd.prog 21 #[.pointer (some ⟨b, 0, none⟩)] w fun en w' => en = .returned (.int .i64 e) ∧ w' = w :=
  (rerr_any K b l e w h).mono fun _ _ h => ⟨h.1, h.2.symm⟩
set_option maxRecDepth 100000 in
set_option maxHeartbeats 6400000 in
theorem takes_any (x : Itm) (hm0 : -9223372036854775808 ≤ x.mo) (hm1 : x.mo ≤ 9223372036854775807) (b d : Nat) (w : World) (h : Tw w b d) :
    Calls Tryd.prog 23 #[.pointer (some ⟨b, 0, none⟩), .pointer (some ⟨d, 0, none⟩), .agg #[.int .i64 x.kd, .int .u64 (x.nu : Int), .int .i64 x.iv, .bool x.fl, .string x.tx, .int .i64 x.x, .int .u32 x.y, .int .u32 x.z, .int .i64 x.mo]] w fun e w' => (∃ ok, e = .returned (.bool ok)) ∧ Tw w' b d ∧ Tn (P2 b d) w w' := by
  obtain ⟨kd, nu, iv, fl, tx, x, y, z, mo⟩ := x
  simp only at hm0 hm1 ⊢
  have HX := Lib.hid h
  obtain ⟨l0, e0, hr0⟩ := h.rd
  obtain ⟨E0, hd0⟩ := h.md
  have hbl := hr0.lt
  have hdl := hd0.lt
  clear h hr0 hd0
  have hneb : ¬ P2 b d w.heap.size := by intro h; rcases h with h | h <;> omega
  go_enter Tryd.func23, Tryd.ntmps23
  go_upto_block 0 with (fail)
  go_cut [7] (fun v wx => ∃ ok, v = .bool ok ∧ Tw wx b d ∧ Tn (P2 b d) w wx)
  case first =>
    have T0 := HX.out.below ((Below.refl _ _).alloc (Nat.le_refl _) (.cells #[.int .i64 kd, .int .u64 (nu : Int), .int .i64 iv, .bool fl, .string tx, .int .i64 x, .int .u32 y, .int .u32 z, .int .i64 mo] 39))
    have t0 : Tn (P2 b d) w (w.alloc (.cells #[.int .i64 kd, .int .u64 (nu : Int), .int .i64 iv, .bool fl, .string tx, .int .i64 x, .int .u32 y, .int .u32 z, .int .i64 mo] 39)) := Tn.alloc _ _
    have y8 : (w.alloc (.cells #[.int .i64 kd, .int .u64 (nu : Int), .int .i64 iv, .bool fl, .string tx, .int .i64 x, .int .u32 y, .int .u32 z, .int .i64 mo] 39)).cell? ⟨w.heap.size, 8, none⟩ = some (.int .i64 mo) := by simp
    have HY8 := Lib.hid y8
    have HT0 := Lib.hid T0
    have Ht0 := Lib.hid t0
    obtain ⟨l, e, hr⟩ := T0.rd
    have HR := Lib.hid hr
    clear T0 t0 y8 hr
    by_cases k0 : kd = 0
    · subst k0
      go_wp2_with (first
        | (go_at_call 14; go_loud (refine (rnum_any b b l e _ HR.out).mono ?_; rintro en w1 ⟨rfl, hs⟩; have T1 := Lib.hid (HT0.out.step1 hs); obtain ⟨E1, hd1⟩ := T1.out.md; have t1 := Lib.hid (Ht0.out.then hs.p2)))
        | (go_at_call 40; go_loud (refine (mnum_any d E1 w1 hd1).mono ?_; rintro en w2 ⟨rfl, hs2⟩)))
      go_meet
      exact ⟨_, rfl, T1.out.step2 hs2, t1.out.then hs2.p2⟩
    by_cases k1 : kd = 1
    · subst k1
      go_wp2_with (first
        | (go_at_call 15; go_loud (refine (rint_any b b l e _ HR.out).mono ?_; rintro en w1 ⟨rfl, hs⟩; have T1 := Lib.hid (HT0.out.step1 hs); obtain ⟨E1, hd1⟩ := T1.out.md; have t1 := Lib.hid (Ht0.out.then hs.p2)))
        | (go_at_call 41; go_loud (refine (mint_any d E1 w1 hd1).mono ?_; rintro en w2 ⟨rfl, hs2⟩)))
      go_meet
      exact ⟨_, rfl, T1.out.step2 hs2, t1.out.then hs2.p2⟩
    by_cases k2 : kd = 2
    · subst k2
      rcases hb : (((nuR l e).1 : Int) == 1) with _ | _
      all_goals
        go_wp2_with (first
          | (go_at_call 16; go_loud (refine (rflag_any b b l e _ HR.out).mono ?_; rw [hb]; rintro en w1 ⟨rfl, hs⟩; have T1 := Lib.hid (HT0.out.step1 hs); obtain ⟨E1, hd1⟩ := T1.out.md; have t1 := Lib.hid (Ht0.out.then hs.p2)))
          | (go_at_call 42; go_loud (refine (mflag_any d E1 w1 hd1).mono ?_; rintro en w2 ⟨rfl, hs2⟩; obtain ⟨c0, c1, c2, f2⟩ := hs2.md)))
        go_meet
        exact ⟨_, rfl, T1.out.step2 hs2, t1.out.then hs2.p2⟩
    by_cases k3 : kd = 3
    · subst k3
      go_wp2_with fail
      go_region_law
        (first
          | (go_simp; go_at_call 17; go_loud (refine (rtext_any mo hm0 hm1 b b l e _ HR.out.drew).mono ?_; rintro en w1 ⟨rfl, hs⟩; have T1 := Lib.hid ((HT0.out.below ((Tn.drew (P := fun _ => False) _).below (Nat.le_refl _) (fun _ _ h => h.elim))).step1 hs); obtain ⟨E1, hd1⟩ := T1.out.md; have t1 := Lib.hid ((Ht0.out.then (Tn.drew _)).then hs.p2); have z8 : w1.cell? ⟨w.heap.size, 8, none⟩ = some (.int .i64 mo) := hs.tn.cell (keptD HY8.out) (fun e => hneb (.inl e))))
          | (go_simp; go_at_call 43; go_loud (refine (mtext_any mo d E1 w1 hd1).mono ?_; rintro en w2 ⟨rfl, hs2⟩)))
      all_goals
        go_wp2_with fail
        go_meet
        exact ⟨_, rfl, T1.out.step2 hs2, t1.out.then hs2.p2⟩
    by_cases k4 : kd = 4
    · subst k4
      go_wp2_with (first
        | (go_at_call 20; go_loud (refine (rstamp_any b b l e _ HR.out HT0.out.wid HT0.out.gb).mono ?_; rintro en w1 ⟨rfl, hs⟩; have T1 := Lib.hid (HT0.out.step1 hs); have t1 := Lib.hid (Ht0.out.then hs.p2)))
        | (go_at_call 19; go_loud (refine (from_any _ _ _ w1).mono ?_; rintro en w3 ⟨rfl, hb3⟩; have T3 := Lib.hid (T1.out.below hb3); obtain ⟨E1, hd1⟩ := T3.out.md; have t3 := Lib.hid (t1.out.then (Tn.ofNew hb3))))
        | (go_at_call 44; go_loud (refine (mstamp_any d E1 w3 hd1).mono ?_; rintro en w2 ⟨rfl, hs2⟩)))
      all_goals
        go_meet
        exact ⟨_, rfl, T3.out.step2 hs2, t3.out.then hs2.p2⟩
    by_cases k5 : kd = 5
    · subst k5
      go_wp2_with fail
      go_region_law
        (first
          | (go_simp; go_at_call 24; go_loud (refine (rcount_any mo hm0 hm1 b b l e _ HR.out.drew).mono ?_; rintro en w1 ⟨rfl, hs⟩; have T1 := Lib.hid ((HT0.out.below ((Tn.drew (P := fun _ => False) _).below (Nat.le_refl _) (fun _ _ h => h.elim))).step1 hs); obtain ⟨E1, hd1⟩ := T1.out.md; have t1 := Lib.hid ((Ht0.out.then (Tn.drew _)).then hs.p2); have z8 : w1.cell? ⟨w.heap.size, 8, none⟩ = some (.int .i64 mo) := hs.tn.cell (keptD HY8.out) (fun e => hneb (.inl e))))
          | (go_simp; go_at_call 45; go_loud (refine (mcount_any mo d E1 w1 hd1).mono ?_; rintro en w2 ⟨rfl, hs2⟩)))
      all_goals
        go_wp2_with fail
        go_meet
        exact ⟨_, rfl, T1.out.step2 hs2, t1.out.then hs2.p2⟩
    go_wp2
    go_meet
    exact ⟨_, rfl, HT0.out, Ht0.out⟩
  case rest =>
    obtain ⟨ok, rfl, T, t⟩ := hcut
    have HT := Lib.hid T
    have Ht := Lib.hid t
    obtain ⟨l, e, hr⟩ := T.rd
    obtain ⟨E, hd⟩ := T.md
    have HR := Lib.hid hr
    obtain ⟨c0, c1, c2, f2⟩ := hd
    clear T t hr
    cases ok
    · go_wp2_with fail
      go_quiet (fail)
      go_wp2_with fail
      go_ret
      exact ⟨⟨_, rfl⟩, HT.out.below ((Tn.drewN (P := fun _ => False) _ _).below (Nat.le_refl _) (fun _ _ h => h.elim)), Ht.out.then (Tn.drewN _ _)⟩
    · go_wp2_with fail
      go_quiet ((go_at_call 21; exact Calls.quiet_of_same (rerr_same b b l e _ (HR.out.drewN _))))
      go_wp2_with fail
      go_ret
      exact ⟨⟨_, rfl⟩, HT.out.below ((Tn.drewN (P := fun _ => False) _ _).below (Nat.le_refl _) (fun _ _ h => h.elim)), Ht.out.then (Tn.drewN _ _)⟩
end Go.Proofs.YtojkbndaleiaaaaDoor
