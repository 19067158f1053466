/- The program's Open of a log. -/
import Derived.Test.YtpckbbjlihhpdaaWl5
namespace Go.Proofs.Ytpckbbjlihhpdaa
open Go.RowKit Go.BigFrame

theorem walGo_bounds : ∀ (m : Nat) (l : List UInt8) (s : Bool) (n : Nat), l.length ≤ m → (∀ x ∈ (walGo l s n).1, x.length ≤ 1048576) ∧ (recsB (walGo l s n).1).length ≤ l.length
  | 0, l, s, n, h => by
    have : l = [] := List.eq_nil_of_length_eq_zero (by omega)
    subst this
    rw [walGo_nil]
    exact ⟨fun x hx => (by cases hx), Nat.le_refl _⟩
  | m + 1, l, s, n, h => by
    by_cases h0 : (openB l).2.2.2 = 0
    · have hu := openB_used h0
      have hdl : (l.drop (openB l).2.2.1).length = l.length - (openB l).2.2.1 := List.length_drop
      by_cases h1 : (openB l).1 = 1
      · rw [walGo_rec h0 h1]
        have ih := walGo_bounds m (l.drop (openB l).2.2.1) s (n + (openB l).2.2.1) (by omega)
        refine ⟨fun x hx => ?_, ?_⟩
        · rcases List.mem_cons.1 hx with rfl | hx
          · exact hu.2.2.1
          · exact ih.1 x hx
        · have el : (recsB ((openB l).2.1 :: (walGo (l.drop (openB l).2.2.1) s (n + (openB l).2.2.1)).1)).length = 9 + (openB l).2.1.length + (recsB (walGo (l.drop (openB l).2.2.1) s (n + (openB l).2.2.1)).1).length := by simp [recsB, sealB_length]
          have h2 := ih.2
          simp only
          omega
      · by_cases h3 : (openB l).1 = 3 ∧ s = false
        · obtain ⟨h3, rfl⟩ := h3
          rw [walGo_seal h0 h3]
          have ih := walGo_bounds m (l.drop (openB l).2.2.1) true (n + (openB l).2.2.1) (by omega)
          exact ⟨ih.1, by omega⟩
        · rw [walGo_else h0 h1 h3]
          exact ⟨fun x hx => (by cases hx), Nat.zero_le _⟩
    · rw [walGo_bad h0]
      exact ⟨fun x hx => (by cases hx), Nat.zero_le _⟩
theorem readB_bounds {b base : List UInt8} {rs : List (List UInt8)} {n : Nat} (h : readB b = some (base, rs, n)) : base.length ≤ 1048576 ∧ (∀ x ∈ rs, x.length ≤ 1048576) ∧ (recsB rs).length ≤ b.length := by
  unfold readB at h
  split at h
  · rename_i h1
    have hu := openB_used h1.1
    have hw := walGo_bounds _ (b.drop (openB b).2.2.1) false (openB b).2.2.1 (Nat.le_refl _)
    have hdl : (b.drop (openB b).2.2.1).length = b.length - (openB b).2.2.1 := List.length_drop
    split at h
    · cases h
      exact ⟨hu.2.2.1, hw.1, by omega⟩
    · cases h
  · cases h
theorem newA_at : ∀ {L : List As} {x : As} {b : List UInt8} {r : List (List UInt8)} {n : Nat}, newA L = some (x, b, r, n) → x ∈ L ∧ readB x.b = some (b, r, n)
  | [], _, _, _, _, h => by simp [newA] at h
  | z :: L, x, b, r, n, h => by
    unfold newA at h
    cases hL : newA L with
    | some q =>
      rw [hL] at h
      obtain ⟨x', b', r', n'⟩ := q
      cases h
      have := newA_at hL
      exact ⟨by simp [this.1], this.2⟩
    | none =>
      rw [hL] at h
      cases hz : readB z.b with
      | none => rw [hz] at h; cases h
      | some q =>
        rw [hz] at h
        obtain ⟨b', r', n'⟩ := q
        cases h
        exact ⟨by simp, hz⟩
def grA (L : List As) : Int := ((L.map As.n)[L.length - 1]?).getD 0
def abv (n : Int) : Int := if n = 9223372036854775807 then 0 else n + 1
def lgA (L : List As) : List UInt8 × List (List UInt8) := match newA L with
  | some (_, b, r, _) => (b, r)
  | none => ([], [])
def aloneA (L : List As) : Bool := match newA L with
  | some (x, _, _, n) => alB L x n
  | none => false
/-- A log in memory: its disk, its segment. -/
structure Wp (w : World) (p d : Nat) (seg : Int) : Prop where
  c0 : w.cell? ⟨p, 0, none⟩ = some (dP d)
  c1 : w.cell? ⟨p, 1, none⟩ = some (.int .i64 seg)
  fr : ∀ j, w.frozen? ⟨p, j, none⟩ = false
abbrev wP (p : Nat) : Value := .pointer (some ⟨p, 0, none⟩)
section
variable {w wx wy : World} {B P : Nat → Prop} {d p : Nat} {a : Ad} {seg : Int}
theorem Wp.tn (h : Wp wx p d seg) (t : Tn P wx wy) (hp : ¬ P p) : Wp wy p d seg :=
  ⟨t.cell h.c0 hp, t.cell h.c1 hp, fun j => (t.frozen (p := ⟨p, j, none⟩) (show p < wx.heap.size from World.block_lt_of_cell? _ _ h.c0) hp).trans (h.fr j)⟩
theorem Wp.below (h : Wp wx p d seg) (hb : Below wx.heap.size wx wy) : Wp wy p d seg := h.tn (Tn.ofNew (P := fun _ => False) hb) fun h => h
theorem segs_le (D : DD wx B d a) : ∀ o ∈ a.L.map As.n, 1 ≤ o ∧ o ≤ 9223372036854775807 := by
  obtain ⟨K, mb, M, D1, e, _⟩ := D.ex
  intro o ho
  rw [← e, List.map_map] at ho
  obtain ⟨s, hs, rfl⟩ := List.mem_map.1 ho
  exact ⟨(D1.sg s hs).n1, (D1.sg s hs).n2⟩
theorem open_nild : Calls Try.prog 13 #[.pointer none] w fun e w' => e = .returned (.tuple #[.pointer none, .slice none 0 0, .slice none 0 0, .int .i64 2]) ∧ w' = w := by
  go_enter Try.func13, Try.ntmps13
  go_wp2_with (go_at_call 34; refine segs_nil.mono ?_; rintro e w' ⟨rfl, rfl⟩)
  exact bodyPost_ret (v := .tuple #[.pointer none, .slice none 0 0, .slice none 0 0, .int .i64 2]) (by simp [results, Try.results13, go_sem]) rfl ⟨rfl, rfl⟩
theorem open_down {room fuse : Int} {L : List As} (D : DD w B d ⟨room, fuse, true, L⟩) : Calls Try.prog 13 #[dP d] w fun e w' => e = .returned (.tuple #[.pointer none, .slice none 0 0, .slice none 0 0, .int .i64 5]) ∧ w' = w := by
  have HS := Lib.hid (segs_DDn D)
  clear D
  go_enter Try.func13, Try.ntmps13
  go_wp2_with (go_at_call 34; refine HS.out.mono ?_; rintro e w' ⟨rfl, rfl⟩)
  exact bodyPost_ret (v := .tuple #[.pointer none, .slice none 0 0, .slice none 0 0, .int .i64 5]) (by simp [results, Try.results13, go_sem]) rfl ⟨rfl, rfl⟩
/-- The log is handed out. -/
def OutP (w w' : World) (d : Nat) (seg : Int) (base : List UInt8) (rs : List (List UInt8)) (e : Ending) (p : Nat) : Prop :=
  ∃ A1 c1 A2 c2, e = .returned (.tuple #[wP p, .slice A1 base.length c1, .slice A2 rs.length c2, .int .i64 0]) ∧ Wp w' p d seg ∧ w.heap.size ≤ p ∧ p < w'.heap.size ∧ Ob w' w.heap.size (.slice A1 base.length c1) base ∧ Rw w' w.heap.size 30 (.slice A2 rs.length c2) rs
set_option maxRecDepth 100000 in
set_option maxHeartbeats 3200000 in
theorem open_alone {room fuse : Int} {L : List As} {x : As} {base : List UInt8} {rs : List (List UInt8)} {n : Nat} (D : DD w B d ⟨room, fuse, false, L⟩) (hN : newA L = some (x, base, rs, n)) (hal : alB L x n = true) :
    Calls Try.prog 13 #[dP d] w fun e w' => Below w.heap.size w w' ∧ ∃ p, OutP w w' d (grA L) base rs e p := by
  have HN := Lib.hid hN
  have HAL := Lib.hid hal
  have hxm := (newA_at hN).1
  have hL0 : 0 < L.length := List.length_pos_of_mem hxm
  have HD := Lib.hid D
  obtain ⟨sg, hsg⟩ : ∃ sg, (L.map As.n)[L.length - 1]? = some sg := ⟨_, List.getElem?_eq_getElem (by simp; omega)⟩
  have hsg2 : grA L = sg := by unfold grA; rw [hsg]; rfl
  rw [hsg2]
  have HSG := Lib.hid hsg
  clear D hN hal hxm hsg hsg2
  go_enter Try.func13, Try.ntmps13
  go_wp2_with fail
  refine (segs_DD HD.out rfl).mono ?_
  rintro e w1 ⟨v, rfl, so, b1⟩
  obtain ⟨A, c, hv⟩ := so.form
  subst hv
  simp only [List.length_map] at so ⊢
  have HSO := Lib.hid so
  have HB1 := Lib.hid b1
  clear so b1
  go_wp2_with fail
  refine (newest_any (HD.out.below HB1.out) rfl HSO.out).mono ?_
  rintro e w2 ⟨b2, hcase⟩
  rcases hcase with ⟨h9, _⟩ | ⟨x', base', rs', n', A1, c1, A2, c2, h9, rfl, ob, rw_⟩
  · exact absurd (h9.symm.trans HN.out) (by simp)
  have h8 := h9.symm.trans HN.out
  simp only [Option.some.injEq, Prod.mk.injEq] at h8
  obtain ⟨rfl, rfl, rfl, rfl⟩ := h8
  rw [show alB L x' n' = true from HAL.out]
  have HB2 : Hid (Below w.heap.size w w2) := Lib.hid (HB1.out.trans (b2.mono HB1.out.size))
  have HSO2 := Lib.hid (HSO.out.below b2)
  have HOB := Lib.hid (ob.more (K' := w.heap.size) HB1.out.size)
  have HRW := Lib.hid (rw_.more (K' := w.heap.size) HB1.out.size)
  obtain ⟨g, rfl⟩ := so_addr HSO.out (by simpa using hL0)
  have hg2 : ∀ o : Obj, So encI 1 (w2.alloc o) w.heap.size 3 (.slice (some ⟨g, 0, none⟩) (L.map As.n).length c) (L.map As.n) := fun o => by rw [List.length_map]; exact HSO2.out.alloc o
  have HGR : Hid (∀ o : Obj, Calls Try.prog 37 #[.slice (some ⟨g, 0, none⟩) L.length c] (w2.alloc o) fun e w' => e = .returned (.int .i64 sg) ∧ w' = w2.alloc o) := Lib.hid fun o => by
    have h1 := greatest_any (x := sg) (hg2 o) (by rw [List.length_map]; exact HSG.out)
    rwa [List.length_map] at h1
  have hz2 := HB2.out.size
  clear hg2 ob rw_ b2 h9 HSO HSO2 HN
  go_wp2_with (go_at_call 37; refine (HGR.out _).mono ?_; rintro e w3 ⟨rfl, rfl⟩)
  have HFIN : Hid (∀ o o2 : Obj, Below w.heap.size w (((w2.alloc o).alloc o2).drew) ∧ Ob (((w2.alloc o).alloc o2).drew) w.heap.size (.slice A1 base'.length c1) base' ∧ Rw (((w2.alloc o).alloc o2).drew) w.heap.size 30 (.slice A2 rs'.length c2) rs') := Lib.hid fun o o2 =>
    have hb : Below w2.heap.size w2 (((w2.alloc o).alloc o2).drew) := (((Below.refl w2.heap.size w2).alloc (Nat.le_refl _) o).alloc (by simp) o2).trans ⟨rfl, rfl, rfl, Nat.le_refl _, fun _ _ => rfl⟩
    ⟨HB2.out.trans (hb.mono hz2), HOB.out.below hb, HRW.out.below hb⟩
  clear HGR HOB HRW HB2 HB1 HD HAL
  go_region
  go_wp2_with fail
  refine bodyPost_ret (v := .tuple #[wP (w2.heap.size + 1), .slice A1 base'.length c1, .slice A2 rs'.length c2, .int .i64 0]) (by simp [results, Try.results13, go_sem]) rfl ?_
  refine ⟨(HFIN.out _ _).1, w2.heap.size + 1, A1, c1, A2, c2, rfl, ⟨by simp [go_sem], by simp [go_sem], fun j => by simp [go_sem]⟩, by omega, by simp [go_sem], (HFIN.out _ _).2.1, (HFIN.out _ _).2.2⟩
end
end Go.Proofs.Ytpckbbjlihhpdaa
