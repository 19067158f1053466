/- A disk's Append, done. -/
import Derived.Test.YtpckbbjlihhpdaaDk3
namespace Go.Proofs.Ytpckbbjlihhpdaa
open Go.RowKit Go.Maps Go.BigFrame

section
variable {K d mb : Nat} {room used fuse : Int} {down : Bool} {M : List Sg} {w : World} {n : Int} {A : Option Addr} {m c : Nat}
/-- What an append to a segment leaves. -/
theorem Dk.appS {w1 w3 : World} {s : Sg} {b' : List UInt8} {A3 : Option Addr} {c3 N : Nat} (h : Dk w1 K d mb room used fuse down M) (hs : s ∈ M) (ob : Ob w3 K (.slice A3 N c3) (s.b ++ b')) (g : w1.grownBy w3 s.v.ownBlock) (at_ : (Value.slice A3 N c3).ownBlock = s.v.ownBlock ∨ (Value.slice A3 N c3).ownBlock = some w1.heap.size) :
    Dk (w3.setCell ⟨s.g, 0, none⟩ (.slice A3 N c3)) K d mb room used fuse down (upd M ⟨s.n, s.g, .slice A3 N c3, s.b ++ b', s.l, s.k⟩) ∧ Tn (bl s) w1 (w3.setCell ⟨s.g, 0, none⟩ (.slice A3 N c3)) ∧
      ∀ k, blD d mb (upd M ⟨s.n, s.g, .slice A3 N c3, s.b ++ b', s.l, s.k⟩) k → blD d mb M k ∨ w1.heap.size ≤ k := by
  have hc := h.sg s hs
  have t3 : Tn (bl s) w1 w3 := (Tn.ofGrown g).mono fun k _ e => .inr e.symm
  have t4 := Tn.setCell w3 s.g 0 (.slice A3 N c3)
  have t : Tn (bl s) w1 (w3.setCell ⟨s.g, 0, none⟩ (.slice A3 N c3)) := t3.thenQ t4 fun k _ e => .inl e
  have hse : ∀ {k}, some k = s.v.ownBlock → k ≠ s.g := fun e e2 => hc.se (by rw [← e, e2])
  have tg := Tn.ofGrown g
  have ng : ¬ some s.g = s.v.ownBlock := fun e => hc.se e.symm
  have x0 := tg.cell hc.c0 ng
  have x1 := tg.cell hc.c1 ng
  have x2 := tg.cell hc.c2 ng
  have xf : ∀ o, w3.frozen? ⟨s.g, o, none⟩ = false := fun o => (tg.frozen (p := ⟨s.g, o, none⟩) hc.lt ng).trans (hc.fr o)
  have ho : (Value.slice A3 N c3).ownBlock ≠ some s.g := by
    rcases at_ with e | e
    · rw [e]; exact hc.se
    · rw [e]; intro e2; injection e2 with e2; have := hc.lt; omega
  obtain ⟨D, B⟩ := h.setS (s' := ⟨s.n, s.g, .slice A3 N c3, s.b ++ b', s.l, s.k⟩) hs rfl rfl t ⟨World.cell?_setCell_same' _ _ _ (by rw [x0]; rfl), by rw [World.cell?_setCell_other _ _ _ _ (by simp)]; exact x1, by rw [World.cell?_setCell_other _ _ _ _ (by simp)]; exact x2, fun o => by rw [World.frozen?_setCell]; exact xf o, t4.ob ob fun k hk e => ho (by rw [hk, e]), hc.kg, by have := hc.le; simp; omega, ho, hc.n1, hc.n2⟩ (at_.imp id fun e k hk => by rw [e] at hk; injection hk with hk; omega)
  exact ⟨D, t, B⟩
set_option maxRecDepth 100000 in
set_option maxHeartbeats 3200000 in
theorem dapp_there (h : Dk w K d mb room used fuse false M) {s : Sg} (hs : s ∈ M) (hu : 0 ≤ used) (hr : used ≤ room) (hr2 : room ≤ 67108864) (hf : fuse ≠ 0) (hf2 : fuse ≤ 9223372036854775807) {K' : Nat} {b' : List UInt8} (hb : Bs w K' A c b') (hml : b'.length = m) (hm : m ≤ room - used)
    (hap : 0 < b'.length → ∀ ad : Addr, A = some ad → ad.block ≠ d) (hlen : s.b.length ≤ used) :
    Calls Try.prog 22 #[dP d, .int .i64 s.n, .slice A m c] w fun e w' => e = .returned (.int .i64 0) ∧ ∃ v, Dk w' K d mb room (used + m) (fz fuse) false (upd M ⟨s.n, s.g, v, s.b ++ b', s.l, s.k⟩) ∧ Tn (blD d mb M) w w' ∧ ∀ k, blD d mb (upd M ⟨s.n, s.g, v, s.b ++ b', s.l, s.k⟩) k → blD d mb M k ∨ w.heap.size ≤ k := by
  have c0 := h.c0
  have c1 := h.c1
  have c2 := h.c2
  have c4 := h.c4
  have hc := h.sg s hs
  have n1 := hc.n1
  have n2 := hc.n2
  have h1 : ¬ s.n < 1 := by omega
  have h2 : decide (room - used < (m : Int)) = false := by simp; omega
  have hw : IntKind.i64.wrap (used + (m : Int)) = used + (m : Int) := wrap_in (by omega) (by omega)
  have hne : d ≠ s.g := fun e => (h.of_ s hs s.g (.inl rfl)).1 e.symm
  have HKB : K ≤ w.heap.size := by have := h.kd; have := h.lt; omega
  have HD := Lib.hid h
  have HB := Lib.hid hb
  have hl := fun k => (h.drewN k).look hs
  clear h hb hc
  go_enter Try.func22, Try.ntmps22
  go_wp2_with fail
  go_big_quiet (fail)
  clear c0 c1 c2 c4 hl
  go_wp2_with (first
    | (go_at_call 49; refine (step_yes K d mb room used fuse M _ (HD.out.drewN _) hf hf2).mono ?_; rintro e w1 ⟨rfl, D1, T1⟩; have HD1 := Lib.hid D1; have HT1 := Lib.hid T1; clear D1 T1)
    | (go_at_call 50; refine (grown_there K d mb room used (fz fuse) false M _ HD1.out hs).mono ?_; rintro e w' ⟨rfl, rfl⟩; rename World => w1; have k0 := (HD1.out.sg s hs).c0)
    | (at_builtin; go_loud (refine wpList_app _ rfl (.tmp 60) (.tmp 61) rfl K s.v s.b rfl (HD1.out.sg s hs).ob A m c b' rfl hml K' (HT1.out.bs (HB.out.drewN _) hap) (s.b.length + m) (by rw [hml]) (by omega) (by have := HD1.out.kd; have := HD1.out.lt; omega) ?_; intro A3 c3 w3 ob3 gr3 at3; have tg := Tn.ofGrown gr3; have y0 := tg.cell k0 (fun e => (HD1.out.sg s hs).se e.symm); have yf := (tg.frozen (p := ⟨s.g, 0, none⟩) (HD1.out.sg s hs).lt (fun e => (HD1.out.sg s hs).se e.symm)).trans ((HD1.out.sg s hs).fr 0); have nd : ¬ some d = s.v.ownBlock := fun e => (HD1.out.of_ s hs d (.inr e.symm)).1 rfl; have z1 := tg.cell HD1.out.c1 nd; have zf := (tg.frozen (p := ⟨d, 1, none⟩) HD1.out.lt nd).trans (HD1.out.fr 1))))
  go_ret
  obtain ⟨D2, T2, B2⟩ := HD1.out.appS hs ob3 gr3 at3
  have hz : w.heap.size ≤ w1.heap.size := HT1.out.size
  exact ⟨rfl, _, D2.set1 (used + m), (((Tn.ofNew (P := blD d mb M) (below_drewN _ _ _)).thenQ HT1.out (fun _ _ e => .inl e)).thenQ T2 (fun _ _ e => .inr (.inr ⟨s, hs, e⟩))).thenQ (Tn.setCell _ d 1 _) (fun _ _ e => .inl e), fun k hk => (B2 k hk).imp id fun e => Nat.le_trans hz e⟩
set_option maxRecDepth 100000 in
set_option maxHeartbeats 3200000 in
theorem dapp_new (h : Dk w K d mb room used fuse false M) (h1n : 1 ≤ n) (h2n : n ≤ 9223372036854775807) (hno : ∀ t ∈ M, t.n ≠ n) (hM : M.length < 1024) (hu : 0 ≤ used) (hr : used ≤ room) (hr2 : room ≤ 67108864) (hf : fuse ≠ 0) (hf2 : fuse ≤ 9223372036854775807) {K' : Nat} {b' : List UInt8} (hb : Bs w K' A c b') (hml : b'.length = m) (hm : m ≤ room - used)
    (hap : 0 < b'.length → ∀ ad : Addr, A = some ad → ad.block ≠ d ∧ ad.block ≠ mb) :
    Calls Try.prog 22 #[dP d, .int .i64 n, .slice A m c] w fun e w' => e = .returned (.int .i64 0) ∧ ∃ g v, Dk w' K d mb room (used + m) (fz fuse) false (upd (ins (newSg n g) M) ⟨n, g, v, b', 0, false⟩) ∧ Tn (blD d mb M) w w' ∧ ∀ k, blD d mb (upd (ins (newSg n g) M) ⟨n, g, v, b', 0, false⟩) k → blD d mb M k ∨ w.heap.size ≤ k := by
  have c0 := h.c0
  have c1 := h.c1
  have c2 := h.c2
  have c4 := h.c4
  have h1 : ¬ n < 1 := by omega
  have h2 : decide (room - used < (m : Int)) = false := by simp; omega
  have h3 : decide ((1024 : Int) ≤ (M.length : Int)) = false := by simp; omega
  have hw : IntKind.i64.wrap (used + (m : Int)) = used + (m : Int) := wrap_in (by omega) (by omega)
  have HKB : K ≤ w.heap.size := by have := h.kd; have := h.lt; omega
  have HD := Lib.hid h
  have HB := Lib.hid hb
  have HN := Lib.hid hno
  have hl := fun k => (h.drewN k).miss (n := n) (by omega) h2n hno
  have hL := fun k ty => (h.drewN k).lenM ty
  clear h hb hno
  go_enter Try.func22, Try.ntmps22
  go_wp2_with fail
  go_big_quiet (fail)
  clear c0 c1 c2 c4 hl hL h3
  go_wp2_with (first
    | (go_at_call 49; refine (step_yes K d mb room used fuse M _ (HD.out.drewN _) hf hf2).mono ?_; rintro e w1 ⟨rfl, D1, T1⟩; have HD1 := Lib.hid D1; have HT1 := Lib.hid T1; have hz1 : w.heap.size ≤ w1.heap.size := T1.size; clear D1 T1)
    | (go_at_call 50; refine (grown_new K d mb room used (fz fuse) false M _ HD1.out h1n h2n HN.out (by omega) (by omega)).mono ?_; rintro e w2 ⟨rfl, D2, T2, B2⟩; have hin : newSg n w1.heap.size ∈ ins (newSg n w1.heap.size) M := mem_ins.2 (.inl rfl); have hsg := D2.sg _ hin; have k0 := hsg.c0; simp only at k0; have kf := hsg.fr 0; simp only at kf; have HD2 := Lib.hid D2; have HT2 := Lib.hid T2; have HB2 := Lib.hid B2; have HIN := Lib.hid hin; clear D2 T2 B2 hin hsg)
    | (at_builtin; go_loud (refine wpList_app _ rfl (.tmp 60) (.tmp 61) rfl K (.slice none 0 0) [] rfl (Ob.empty _ _) A m c b' rfl hml K' (HT2.out.bs (HT1.out.bs (HB.out.drewN _) (fun a b e => (hap a b e).1)) (fun a b e => (hap a b e).2)) m (by simp [hml]) (by simp; omega) (by have := HD2.out.kd; have := HD2.out.lt; omega) ?_; intro A3 c3 w3 ob3 gr3 at3; have tg := Tn.ofGrown gr3; have y0 := tg.cell k0 (by simp [Value.ownBlock]); have yf := (tg.frozen (p := ⟨w1.heap.size, 0, none⟩) (HD2.out.sg _ HIN.out).lt (by simp [Value.ownBlock])).trans kf; have z1 := tg.cell HD2.out.c1 (by simp [Value.ownBlock]); have zf := (tg.frozen (p := ⟨d, 1, none⟩) HD2.out.lt (by simp [Value.ownBlock])).trans (HD2.out.fr 1); have hne : d ≠ w1.heap.size := by have := HD1.out.lt; omega)))
  go_ret
  obtain ⟨D3, T3, B3⟩ := HD2.out.appS HIN.out ob3 gr3 at3
  have hz2 : w1.heap.size ≤ w2.heap.size := HT2.out.size
  refine ⟨rfl, w1.heap.size, _, D3.set1 (used + m), ?_, fun k hk => ?_⟩
  · exact ((((Tn.ofNew (P := blD d mb M) (below_drewN _ _ _)).thenQ HT1.out (fun _ _ e => .inl e)).thenQ HT2.out (fun _ _ e => .inr (.inl e))).thenQ T3 (fun k hk e => by
      rcases e with e | e
      · have e2 : k = w1.heap.size := e
        have hk2 : k < w.heap.size := hk
        omega
      · simp [Value.ownBlock] at e)).thenQ (Tn.setCell _ d 1 _) (fun _ _ e => .inl e)
  · rcases B3 k hk with e | e
    · rcases HB2.out k e with e | e
      · exact .inl e
      · exact .inr (by omega)
    · exact .inr (by omega)
end
end Go.Proofs.Ytpckbbjlihhpdaa
