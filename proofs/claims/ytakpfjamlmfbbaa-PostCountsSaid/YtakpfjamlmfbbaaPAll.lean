/- All. -/
import Derived.Test.YtakpfjamlmfbbaaPGet
import Derived.WalkSpells
import Derived.LoopTactic
namespace Go.Proofs.Ytakpfjamlmfbbaa
open Go.RowKit Go.Conc

def NewM (w : World) (l : List Mg) (e : Ending) (w' : World) : Prop :=
  ∃ A c, e = .returned (.slice A l.length c) ∧ So encM 3 w' w.heap.size 36 (.slice A l.length c) l ∧ Below w.heap.size w w'
theorem grown_belowE {W w w1 : World} {v : Value} {B : Nat} (h : Below B W w) (hg : w.grownBy w1 v.ownBlock) (hB : B ≤ w.heap.size) (ho : ∀ k, v.ownBlock = some k → B ≤ k) : Below B W w1 := h.grown hg hB ho
set_option maxHeartbeats 800000 in
theorem slclone_any (K : Nat) (A : Option Addr) (n cap : Nat) (l : List Mg) (w : World) (hn : l.length = n) (hb : Sr encM 3 w K A cap l) (hK : K ≤ w.heap.size) (hsz : l.length * 40 ≤ 140737488355328) :
    Calls Try.prog 17 #[.slice A n cap] w (NewM w l) := by
  subst hn
  have hle := hb.le
  have hmax := hb.max
  unfold maxLen at hmax
  cases A with
  | none =>
    have hc := hb.nil rfl
    have hl : l = [] := List.eq_nil_of_length_eq_zero (by omega)
    subst hl hc
    have hq := Lib.run_eql_slice_nil (P := Try.prog) w 40 36 none 0 0 0 0 Try.underlying40
    go_enter Try.func17, Try.ntmps17
    go_wp2
    go_ret
    exact ⟨none, 0, rfl, So.empty _ _ _ _ _, Below.refl _ _⟩
  | some ad =>
    have hq := Lib.run_eql_slice_nil (P := Try.prog) w 40 36 (some ad) l.length cap 0 0 Try.underlying40
    go_enter Try.func17, Try.ntmps17
    go_wp2_with (at_builtin; refine wpList_appE Try.underlying40 info_msg rfl (by decide) encM_length encM_one _ rfl (.tmp 5) (.tmp 6) rfl w.heap.size (.slice (some ⟨w.heap.size, 0, none⟩) 0 0) [] rfl (lit_so _ w.heap.size _ w.heap.size rfl (Nat.le_refl _) _ 0 [] encM_length rfl rfl (by decide)) (some ad) l.length cap l rfl rfl K (hb.alloc hK _) l.length (by simp) (by unfold maxLen; omega) (by simpa using hsz) (by simp) ?_; intro A2 cap2 w2 hown2 hgrow2 hat2; have B2 : Below w.heap.size w w2 := grown_belowE ((Below.refl _ _).alloc (Nat.le_refl _) _) hgrow2 (by simp) (by simp [Value.ownBlock]))
    go_ret
    exact ⟨A2, cap2, rfl, hown2, B2⟩

theorem flat_set3 (x : Mg) : ∀ (l : List Mg) (i : Nat), (((l.flatMap encM).set (i * 3) (.int .i64 x.f)).set (i * 3 + 1) (.int .i64 x.t)).set (i * 3 + 2) (.slice x.A x.n x.c) = (l.set i x).flatMap encM
  | [], i => by simp
  | y :: l, 0 => by simp [encM]
  | y :: l, i + 1 => by
    have ih := flat_set3 x l i
    have e : (i + 1) * 3 = ((i * 3 + 1) + 1) + 1 := by omega
    rw [List.flatMap_cons, List.set_cons_succ, List.flatMap_cons, ← ih, e]
    rfl
theorem m_set {w : World} {K g n cap : Nat} {l : List Mg} (h : So encM 3 w K 36 (.slice (some ⟨g, 0, none⟩) n cap) l) (hn : n = l.length) (i : Nat) (x : Mg) :
    So encM 3 (((w.setCell ⟨g, i * 3, none⟩ (.int .i64 x.f)).setCell ⟨g, i * 3 + 1, none⟩ (.int .i64 x.t)).setCell ⟨g, i * 3 + 2, none⟩ (.slice x.A x.n x.c)) K 36 (.slice (some ⟨g, 0, none⟩) n cap) (l.set i x) := by
  subst hn
  have h1 := (World.ownsRow.stored h (i * 3) (.int .i64 x.f)).1
  have h2 := (World.ownsRow.stored h1 (i * 3 + 1) (.int .i64 x.t)).1
  have h3 := (World.ownsRow.stored h2 (i * 3 + 2) (.slice x.A x.n x.c)).1
  unfold So
  rw [List.length_set, ← flat_set3]
  exact h3
theorem m_slot {w : World} {K g n cap : Nat} {l : List Mg} (h : So encM 3 w K 36 (.slice (some ⟨g, 0, none⟩) n cap) l) {i : Nat} {x : Mg} (hi : l[i]? = some x) :
    w.cell? ⟨g, i * 3, none⟩ = some (.int .i64 x.f) ∧ w.cell? ⟨g, i * 3 + 1, none⟩ = some (.int .i64 x.t) ∧ w.cell? ⟨g, i * 3 + 2, none⟩ = some (.slice x.A x.n x.c) ∧ ∀ o, w.frozen? ⟨g, o, none⟩ = false := by
  have hil : i < l.length := (List.getElem?_eq_some_iff.1 hi).1
  have hs := So.sr encM_length h
  have hln := hs.2
  subst hln
  obtain ⟨ad, e, _, h0, h1⟩ := hs.1.get2 hil
  cases e
  have hx : l[i] = x := by rw [List.getElem?_eq_getElem hil] at hi; exact Option.some.inj hi
  rw [hx] at h0 h1
  have a0 : (⟨g, 0, none⟩ : Addr).add (i * 3) = ⟨g, i * 3, none⟩ := by unfold Addr.add; split <;> simp_all
  rw [a0] at h0 h1
  exact ⟨h0 _ rfl, h1 1 _ (by decide) rfl, h1 2 _ (by decide) rfl, fun o => World.ownsRow.frozenAt h o⟩
theorem m_addr {w : World} {K n cap : Nat} {A : Option Addr} {l : List Mg} (h : So encM 3 w K 36 (.slice A n cap) l) (hl : 0 < l.length) : ∃ g, A = some ⟨g, 0, none⟩ ∧ K ≤ g ∧ g < w.heap.size := by
  rcases h.2 with ⟨he, h0⟩ | ⟨g, cap', cur, he, hb, hg, _⟩
  · omega
  · injection he with h1 h2 h3
    exact ⟨g, h1, hb, (h.lt g (by rw [h1]; rfl)).2⟩
end Go.Proofs.Ytakpfjamlmfbbaa
