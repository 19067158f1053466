/-
  DERIVED: THE SHELF's CONTRACTS AT THIS DUMP, IN PLAIN WORDS (tools/lay-plain.mjs out of 'TryShelf.lean', which tools/lay-shelf.mjs wrote): THE SAME DECLARATIONS UNDER THE SAME NAMES: 'import', 'namespace', 'open', 'def', 'theorem' AND NOTHING ELSE: no command of the shelf's: FOR A HAND-IN. Each laying: the table of numbers ('.._ren') and one theorem, a field a fact of the dump's own or the kernel's comparison; each contract: ONE APPLICATION.
-/
import Derived.Test.YtkkaehaoahpibaaPk1
import Derived.Test.YtkkaehaoahpibaaPk3
import Derived.Maps.OwnSet
import Derived.Lib.SlKeysI
import Derived.Deep.QuietTactic
import Derived.LoopTactic
import Derived.Ground.SlgmProg
import Derived.Ground.GgzProg
import Derived.Shelf.SortM.SortNone
import Derived.Shelf.SortM.Plain
import Derived.Shelf.SlIterI.Nil
import Derived.Shelf.SlGeneric
import Derived.Test.YtkkaehaoahpibaaProg
namespace Go.Proofs.Ytkkaehaoahpibaa
open Go.RowKit Go.Maps

/-- A segment: its number, its block, its bytes' value, its bytes, how many of them last, whether it lasts. -/
structure Sg where
  n : Int
  g : Nat
  v : Value
  b : List UInt8
  l : Nat
  k : Bool
def eSg (s : Sg) : Lit × DataW Unit := (.int .i64 s.n, .lit (.int .i64 s.g))
def Dm (M : List Sg) : DataW Unit := .map (M.map eSg)
def ptrE : Value → Option (DataW Unit × List MemPlace)
  | .pointer (some ⟨g, 0, none⟩) => some (.lit (.int .i64 g), [])
  | .pointer none => some (.nil, [])
  | _ => none
theorem ptrE_lit {v : Value} {g : Nat} {ps : List MemPlace} (h : ptrE v = some (.lit (.int .i64 (g : Int)), ps)) : v = .pointer (some ⟨g, 0, none⟩) := by
  unfold ptrE at h
  split at h
  · simp at h
    obtain ⟨h1, _⟩ := h
    have h2 := Int.ofNat_inj.1 h1
    rw [h2]
  · simp at h
  · cases h
theorem ptrE_nil {v : Value} {ps : List MemPlace} (h : ptrE v = some (.nil, ps)) : v = .pointer none := by
  unfold ptrE at h
  split at h
  · simp at h
  · rfl
  · cases h
def Rise (M : List Sg) : Prop := M.Pairwise (fun s t => s.n < t.n)
theorem Rise.inj {M : List Sg} (h : Rise M) {s t : Sg} (hs : s ∈ M) (ht : t ∈ M) (e : s.n = t.n) : s = t := by
  induction M with
  | nil => cases hs
  | cons x M ih =>
    obtain ⟨h1, h2⟩ := List.pairwise_cons.1 h
    rcases List.mem_cons.1 hs with rfl | hs' <;> rcases List.mem_cons.1 ht with rfl | ht'
    · rfl
    · have := h1 _ ht'; omega
    · have := h1 _ hs'; omega
    · exact ih h2 hs' ht'
/-- The segment with a number is another one now. -/
def upd (M : List Sg) (s : Sg) : List Sg := M.map fun t => if t.n = s.n then s else t
theorem mem_upd {M : List Sg} {s t : Sg} (h : t ∈ upd M s) : t = s ∨ (t ∈ M ∧ t.n ≠ s.n) := by
  obtain ⟨x, hx, rfl⟩ := List.mem_map.1 h
  by_cases e : x.n = s.n
  · simp [e]
  · simp [e, hx]
theorem upd_n (M : List Sg) (s : Sg) : (upd M s).map Sg.n = M.map Sg.n := by
  unfold upd
  rw [List.map_map]
  refine List.map_congr_left fun t _ => ?_
  show (if t.n = s.n then s else t).n = t.n
  split
  · rename_i e; exact e.symm
  · rfl
theorem rise_iff (M : List Sg) : Rise M ↔ (M.map Sg.n).Pairwise (· < ·) := by unfold Rise; rw [List.pairwise_map]
theorem Rise.upd {M : List Sg} (h : Rise M) (s : Sg) : Rise (upd M s) := by rw [rise_iff, upd_n, ← rise_iff]; exact h
theorem dm_upd {M : List Sg} (h : Rise M) {s s' : Sg} (hs : s ∈ M) (hn : s'.n = s.n) (hg : s'.g = s.g) : Dm (upd M s') = Dm M := by
  unfold Dm upd
  rw [List.map_map]
  congr 1
  refine List.map_congr_left fun t ht => ?_
  show eSg (if t.n = s'.n then s' else t) = eSg t
  split
  · rename_i e
    have := h.inj ht hs (e.trans hn)
    subst this
    unfold eSg
    rw [hn, hg]
  · rfl
/-- A segment more. -/
def ins (s : Sg) : List Sg → List Sg
  | [] => [s]
  | t :: r => if s.n < t.n then s :: t :: r else t :: ins s r
theorem mem_ins {s t : Sg} : ∀ {M : List Sg}, t ∈ ins s M ↔ t = s ∨ t ∈ M
  | [] => by simp [ins]
  | x :: r => by
    unfold ins
    split
    · simp
    · simp only [List.mem_cons, mem_ins (M := r)]
      constructor
      · rintro (h | h | h) <;> simp [h]
      · rintro (h | h | h) <;> simp [h]
theorem Rise.ins {s : Sg} : ∀ {M : List Sg}, Rise M → (∀ t ∈ M, t.n ≠ s.n) → Rise (ins s M)
  | [], _, _ => by simp [Go.Proofs.Ytkkaehaoahpibaa.ins, Rise]
  | x :: r, h, hne => by
    obtain ⟨h1, h2⟩ := List.pairwise_cons.1 h
    unfold Go.Proofs.Ytkkaehaoahpibaa.ins
    split
    · rename_i hlt
      refine List.pairwise_cons.2 ⟨fun t ht => ?_, h⟩
      rcases List.mem_cons.1 ht with rfl | ht
      · exact hlt
      · have := h1 t ht; omega
    · rename_i hlt
      have h3 := hne x (List.mem_cons_self ..)
      refine List.pairwise_cons.2 ⟨fun t ht => ?_, Rise.ins h2 fun t ht => hne t (List.mem_cons_of_mem _ ht)⟩
      rcases mem_ins.1 ht with rfl | ht
      · omega
      · exact h1 t ht
theorem insert_ins (s : Sg) : ∀ M : List Sg, DataW.insert (eSg s) (M.map eSg) = (ins s M).map eSg
  | [] => rfl
  | t :: r => by
    simp only [List.map_cons, DataW.insert, ins]
    have e : (eSg s).1.before (eSg t).1 = decide (s.n < t.n) := rfl
    rw [e]
    by_cases h : s.n < t.n
    · simp [h]
    · simp [h, insert_ins s r]
theorem same_eSg (t : Sg) (n : Int) : (eSg t).1.sameKey (.int .i64 n) = decide (t.n = n) := by simp [eSg, Lit.sameKey]
theorem filter_eSg (n : Int) : ∀ M : List Sg, (M.map eSg).filter (fun p => !p.1.sameKey (.int .i64 n)) = (M.filter fun t => !decide (t.n = n)).map eSg
  | [] => rfl
  | t :: r => by
    simp only [List.map_cons, List.filter_cons, same_eSg, filter_eSg n r]
    by_cases h : t.n = n <;> simp [h]
theorem dm_del (M : List Sg) (n : Int) : (Dm M).del (.int .i64 n) = Dm (M.filter fun t => !decide (t.n = n)) := by
  show DataW.map _ = DataW.map _
  rw [filter_eSg]
theorem dm_put {M : List Sg} (s : Sg) (hne : ∀ t ∈ M, t.n ≠ s.n) : (Dm M).put (.int .i64 s.n) (.lit (.int .i64 s.g)) = Dm (ins s M) := by
  show DataW.map _ = DataW.map _
  rw [filter_eSg]
  have : (M.filter fun t => !decide (t.n = s.n)) = M := List.filter_eq_self.2 fun t ht => by simp [hne t ht]
  rw [this]
  exact congrArg DataW.map (insert_ins s M)
theorem dm_at {M : List Sg} (h : Rise M) {s : Sg} (hs : s ∈ M) (z : DataW Unit) : (Dm M).atKey (.int .i64 s.n) z = .lit (.int .i64 s.g) := by
  unfold Dm DataW.atKey
  simp only
  induction M with
  | nil => cases hs
  | cons x M ih =>
    obtain ⟨h1, h2⟩ := List.pairwise_cons.1 h
    rw [List.map_cons, List.find?_cons, same_eSg]
    rcases List.mem_cons.1 hs with rfl | hs
    · simp [eSg]
    · have := h1 s hs
      have e : ¬ x.n = s.n := by omega
      simp only [e, decide_false]
      exact ih h2 hs
theorem dm_not {M : List Sg} {n : Int} (h : ∀ t ∈ M, t.n ≠ n) (z : DataW Unit) : (Dm M).atKey (.int .i64 n) z = z := by
  unfold Dm DataW.atKey
  simp only
  induction M with
  | nil => rfl
  | cons x M ih =>
    rw [List.map_cons, List.find?_cons, same_eSg]
    have e : ¬ x.n = n := h x (List.mem_cons_self ..)
    simp only [e, decide_false]
    exact ih fun t ht => h t (List.mem_cons_of_mem _ ht)
theorem dm_size (M : List Sg) : Maps.size (Dm M) = M.length := by simp [Dm, Maps.size_eq]
theorem dm_keys (M : List Sg) : intKeys (Dm M) = M.map Sg.n := by
  simp only [Dm, intKeys, List.map_map]
  rfl
theorem owns_size {w : World} {k : TypeId} {R : Value → Option (DataW Unit × List MemPlace)} {b n : Nat} {D : DataW Unit} (h : w.ownsMap Try.prog k R b n D) : w.ownsMap Try.prog k R b (Maps.size D) D := by
  obtain ⟨es, clock, hb, F, _, rfl⟩ := h
  exact ⟨es, clock, hb, F, by rw [Maps.size_eq, length_sorted]; simp, rfl⟩

/-- The blocks of a segment. -/
def bl (s : Sg) (k : Nat) : Prop := k = s.g ∨ s.v.ownBlock = some k
/-- The blocks of a disk. -/
def blD (d mb : Nat) (M : List Sg) (k : Nat) : Prop := k = d ∨ k = mb ∨ ∃ s ∈ M, bl s k
/-- What stands in a segment's block. -/
structure SgC (w : World) (K : Nat) (s : Sg) : Prop where
  c0 : w.cell? ⟨s.g, 0, none⟩ = some s.v
  c1 : w.cell? ⟨s.g, 1, none⟩ = some (.int .i64 (s.l : Int))
  c2 : w.cell? ⟨s.g, 2, none⟩ = some (.bool s.k)
  fr : ∀ o, w.frozen? ⟨s.g, o, none⟩ = false
  ob : Ob w K s.v s.b
  kg : K ≤ s.g
  le : s.l ≤ s.b.length
  se : s.v.ownBlock ≠ some s.g
  n1 : 1 ≤ s.n
  n2 : s.n ≤ 9223372036854775807
theorem SgC.lt {w : World} {K : Nat} {s : Sg} (h : SgC w K s) : s.g < w.heap.size := World.block_lt_of_cell? w _ h.c0
theorem SgC.bl {w : World} {K : Nat} {s : Sg} (h : SgC w K s) {k : Nat} (hk : bl s k) : K ≤ k ∧ k < w.heap.size := by
  rcases hk with rfl | hk
  · exact ⟨h.kg, h.lt⟩
  · exact h.ob.lt k hk
theorem SgC.tn {P : Nat → Prop} {w w' : World} {K : Nat} {s : Sg} (h : SgC w K s) (t : Tn P w w') (hn : ∀ k, Go.Proofs.Ytkkaehaoahpibaa.bl s k → ¬ P k) : SgC w' K s :=
  ⟨t.cell h.c0 (hn _ (.inl rfl)), t.cell h.c1 (hn _ (.inl rfl)), t.cell h.c2 (hn _ (.inl rfl)), fun o => (t.frozen (p := ⟨s.g, o, none⟩) h.lt (hn _ (.inl rfl))).trans (h.fr o), t.ob h.ob fun k hk => hn k (.inr hk), h.kg, h.le, h.se, h.n1, h.n2⟩
/-- A disk at block d, its map at block mb. -/
structure Dk (w : World) (K d mb : Nat) (room used fuse : Int) (down : Bool) (M : List Sg) : Prop where
  c0 : w.cell? ⟨d, 0, none⟩ = some (.int .i64 room)
  c1 : w.cell? ⟨d, 1, none⟩ = some (.int .i64 used)
  c2 : w.cell? ⟨d, 2, none⟩ = some (.map (some mb))
  c3 : w.cell? ⟨d, 3, none⟩ = some (.int .i64 fuse)
  c4 : w.cell? ⟨d, 4, none⟩ = some (.bool down)
  fr : ∀ o, w.frozen? ⟨d, o, none⟩ = false
  mp : w.ownsMap Try.prog 3 ptrE mb M.length (Dm M)
  ri : Rise M
  sg : ∀ s ∈ M, SgC w K s
  ap : ∀ s ∈ M, ∀ t ∈ M, s.n ≠ t.n → ∀ k, bl s k → ¬ bl t k
  of_ : ∀ s ∈ M, ∀ k, bl s k → k ≠ d ∧ k ≠ mb
  dm : d ≠ mb
  kd : K ≤ d
  km : K ≤ mb
section
variable {P : Nat → Prop} {w w' : World} {K d mb : Nat} {room used fuse : Int} {down : Bool} {M : List Sg}
theorem Dk.lt (h : Dk w K d mb room used fuse down M) : d < w.heap.size := World.block_lt_of_cell? w _ h.c0
theorem Dk.top (h : Dk w K d mb room used fuse down M) {k : Nat} (hk : blD d mb M k) : K ≤ k ∧ k < w.heap.size := by
  rcases hk with rfl | rfl | ⟨s, hs, hk⟩
  · exact ⟨h.kd, h.lt⟩
  · exact ⟨h.km, h.mp.lt⟩
  · exact (h.sg s hs).bl hk
theorem Tn.map {k : TypeId} {R : Value → Option (DataW Unit × List MemPlace)} {b n : Nat} {D : DataW Unit} (t : Tn P w w') (h : w.ownsMap Try.prog k R b n D) (hn : ¬ P b) : w'.ownsMap Try.prog k R b n D := by
  have hlt := h.lt
  obtain ⟨es, clock, hb, F, hs, hD⟩ := h
  exact ⟨es, clock, (t.block b hlt hn).trans hb, F, hs, hD⟩
/-- What turns none of its blocks leaves the disk as it was. -/
theorem Dk.tn (h : Dk w K d mb room used fuse down M) (t : Tn P w w') (hn : ∀ k, blD d mb M k → ¬ P k) : Dk w' K d mb room used fuse down M :=
  ⟨t.cell h.c0 (hn _ (.inl rfl)), t.cell h.c1 (hn _ (.inl rfl)), t.cell h.c2 (hn _ (.inl rfl)), t.cell h.c3 (hn _ (.inl rfl)), t.cell h.c4 (hn _ (.inl rfl)), fun o => (t.frozen (p := ⟨d, o, none⟩) h.lt (hn _ (.inl rfl))).trans (h.fr o), t.map h.mp (hn _ (.inr (.inl rfl))), h.ri,
    fun s hs => (h.sg s hs).tn t fun k hk => hn k (.inr (.inr ⟨s, hs, hk⟩)), h.ap, h.of_, h.dm, h.kd, h.km⟩
theorem Dk.below (h : Dk w K d mb room used fuse down M) (hb : Below w.heap.size w w') : Dk w' K d mb room used fuse down M := h.tn (Tn.ofNew (P := fun _ => False) hb) fun _ _ h => h
theorem Dk.drewN (h : Dk w K d mb room used fuse down M) (n : Nat) : Dk (w.drewN n) K d mb room used fuse down M := h.below ⟨rfl, rfl, rfl, Nat.le_refl _, fun _ _ => rfl⟩
/-- The disk's own block is turned. -/
theorem Dk.setD (h : Dk w K d mb room used fuse down M) (t : Tn (· = d) w w') {used' fuse' : Int} {down' : Bool} (c0 : w'.cell? ⟨d, 0, none⟩ = some (.int .i64 room)) (c1 : w'.cell? ⟨d, 1, none⟩ = some (.int .i64 used')) (c2 : w'.cell? ⟨d, 2, none⟩ = some (.map (some mb)))
    (c3 : w'.cell? ⟨d, 3, none⟩ = some (.int .i64 fuse')) (c4 : w'.cell? ⟨d, 4, none⟩ = some (.bool down')) (fr : ∀ o, w'.frozen? ⟨d, o, none⟩ = false) : Dk w' K d mb room used' fuse' down' M :=
  ⟨c0, c1, c2, c3, c4, fr, t.map h.mp (fun e => h.dm e.symm), h.ri, fun s hs => (h.sg s hs).tn t fun k hk e => (h.of_ s hs k hk).1 e, h.ap, h.of_, h.dm, h.kd, h.km⟩
theorem Dk.set1 (h : Dk w K d mb room used fuse down M) (x : Int) : Dk (w.setCell ⟨d, 1, none⟩ (.int .i64 x)) K d mb room x fuse down M := by
  have t := Tn.setCell w d 1 (.int .i64 x)
  refine h.setD t ?_ (World.cell?_setCell_same' _ _ _ (by rw [h.c1]; rfl)) ?_ ?_ ?_ (fun o => by rw [World.frozen?_setCell]; exact h.fr o)
  · rw [World.cell?_setCell_other _ _ _ _ (by simp)]; exact h.c0
  · rw [World.cell?_setCell_other _ _ _ _ (by simp)]; exact h.c2
  · rw [World.cell?_setCell_other _ _ _ _ (by simp)]; exact h.c3
  · rw [World.cell?_setCell_other _ _ _ _ (by simp)]; exact h.c4
theorem Dk.set3 (h : Dk w K d mb room used fuse down M) (x : Int) : Dk (w.setCell ⟨d, 3, none⟩ (.int .i64 x)) K d mb room used x down M := by
  have t := Tn.setCell w d 3 (.int .i64 x)
  refine h.setD t ?_ ?_ ?_ (World.cell?_setCell_same' _ _ _ (by rw [h.c3]; rfl)) ?_ (fun o => by rw [World.frozen?_setCell]; exact h.fr o)
  · rw [World.cell?_setCell_other _ _ _ _ (by simp)]; exact h.c0
  · rw [World.cell?_setCell_other _ _ _ _ (by simp)]; exact h.c1
  · rw [World.cell?_setCell_other _ _ _ _ (by simp)]; exact h.c2
  · rw [World.cell?_setCell_other _ _ _ _ (by simp)]; exact h.c4
theorem Dk.set4 (h : Dk w K d mb room used fuse down M) (x : Bool) : Dk (w.setCell ⟨d, 4, none⟩ (.bool x)) K d mb room used fuse x M := by
  have t := Tn.setCell w d 4 (.bool x)
  refine h.setD t ?_ ?_ ?_ ?_ (World.cell?_setCell_same' _ _ _ (by rw [h.c4]; rfl)) (fun o => by rw [World.frozen?_setCell]; exact h.fr o)
  · rw [World.cell?_setCell_other _ _ _ _ (by simp)]; exact h.c0
  · rw [World.cell?_setCell_other _ _ _ _ (by simp)]; exact h.c1
  · rw [World.cell?_setCell_other _ _ _ _ (by simp)]; exact h.c2
  · rw [World.cell?_setCell_other _ _ _ _ (by simp)]; exact h.c3
/-- One segment is turned; its bytes lie where they lay, or from block N on. -/
theorem Dk.setN (h : Dk w K d mb room used fuse down M) {N : Nat} (hN : ∀ k, blD d mb M k → k < N) {s s' : Sg} (hs : s ∈ M) (hn : s'.n = s.n) (hg : s'.g = s.g) (t : Tn (bl s) w w') (hc : SgC w' K s') (ho : s'.v.ownBlock = s.v.ownBlock ∨ ∀ k, s'.v.ownBlock = some k → N ≤ k) :
    Dk w' K d mb room used fuse down (upd M s') ∧ ∀ k, blD d mb (upd M s') k → blD d mb M k ∨ N ≤ k := by
  have hb : ∀ k, bl s' k → bl s k ∨ N ≤ k := fun k hk => by
    rcases hk with e | e
    · exact .inl (.inl (e.trans hg))
    · rcases ho with h2 | h2
      · exact .inl (.inr (h2 ▸ e))
      · exact .inr (h2 k e)
  have hlow : ∀ x ∈ M, ∀ k, bl x k → k < N := fun x hx k hk => hN k (.inr (.inr ⟨x, hx, hk⟩))
  have hd := hN d (.inl rfl)
  have hm := hN mb (.inr (.inl rfl))
  refine ⟨⟨t.cell h.c0 fun e => (h.of_ s hs _ e).1 rfl, t.cell h.c1 fun e => (h.of_ s hs _ e).1 rfl, t.cell h.c2 fun e => (h.of_ s hs _ e).1 rfl, t.cell h.c3 fun e => (h.of_ s hs _ e).1 rfl, t.cell h.c4 fun e => (h.of_ s hs _ e).1 rfl, fun o => (t.frozen (p := ⟨d, o, none⟩) h.lt fun e => (h.of_ s hs _ e).1 rfl).trans (h.fr o), ?_, h.ri.upd s', fun x hx => ?_, fun x hx y hy hxy k hk hk2 => ?_, fun x hx k hk => ?_, h.dm, h.kd, h.km⟩, fun k hk => ?_⟩
  · rw [dm_upd h.ri hs hn hg]
    have : (upd M s').length = M.length := by simp [upd]
    rw [this]
    exact t.map h.mp fun e => (h.of_ s hs _ e).2 rfl
  · rcases mem_upd hx with rfl | ⟨hx, hne⟩
    · exact hc
    · exact (h.sg x hx).tn t fun k hk hk2 => h.ap x hx s hs (by rw [← hn]; exact hne) k hk hk2
  · rcases mem_upd hx with rfl | ⟨hx', hne⟩ <;> rcases mem_upd hy with rfl | ⟨hy', hne2⟩
    · exact hxy rfl
    · rcases hb k hk with e | e
      · exact h.ap s hs y hy' (by rw [← hn]; exact fun e => hne2 e.symm) k e hk2
      · have := hlow y hy' k hk2; omega
    · rcases hb k hk2 with e | e
      · exact h.ap x hx' s hs (by rw [← hn]; exact hne) k hk e
      · have := hlow x hx' k hk; omega
    · exact h.ap x hx' y hy' hxy k hk hk2
  · rcases mem_upd hx with rfl | ⟨hx, hne⟩
    · rcases hb k hk with e | e
      · exact h.of_ s hs k e
      · omega
    · exact h.of_ x hx k hk
  · rcases hk with e | e | ⟨x, hx, hk⟩
    · exact .inl (.inl e)
    · exact .inl (.inr (.inl e))
    · rcases mem_upd hx with rfl | ⟨hx, hne⟩
      · exact (hb k hk).imp (fun e => .inr (.inr ⟨s, hs, e⟩)) id
      · exact .inl (.inr (.inr ⟨x, hx, hk⟩))
/-- One segment is turned. -/
theorem Dk.setS (h : Dk w K d mb room used fuse down M) {s s' : Sg} (hs : s ∈ M) (hn : s'.n = s.n) (hg : s'.g = s.g) (t : Tn (bl s) w w') (hc : SgC w' K s') (ho : s'.v.ownBlock = s.v.ownBlock ∨ ∀ k, s'.v.ownBlock = some k → w.heap.size ≤ k) :
    Dk w' K d mb room used fuse down (upd M s') ∧ ∀ k, blD d mb (upd M s') k → blD d mb M k ∨ w.heap.size ≤ k := h.setN (fun _ hk => (h.top hk).2) hs hn hg t hc ho
/-- A segment is taken away. -/
theorem Dk.del (h : Dk w K d mb room used fuse down M) (n : Int) (t : Tn (· = mb) w w') {nn : Nat} (hm : w'.ownsMap Try.prog 3 ptrE mb nn ((Dm M).del (.int .i64 n))) :
    Dk w' K d mb room used fuse down (M.filter fun t => !decide (t.n = n)) ∧ ∀ k, blD d mb (M.filter fun t => !decide (t.n = n)) k → blD d mb M k := by
  have hsub : ∀ x, x ∈ (M.filter fun t => !decide (t.n = n)) → x ∈ M := fun x hx => (List.mem_filter.1 hx).1
  refine ⟨⟨t.cell h.c0 h.dm, t.cell h.c1 h.dm, t.cell h.c2 h.dm, t.cell h.c3 h.dm, t.cell h.c4 h.dm, fun o => (t.frozen (p := ⟨d, o, none⟩) h.lt h.dm).trans (h.fr o), ?_, h.ri.filter _, fun x hx => (h.sg x (hsub x hx)).tn t fun k hk e => (h.of_ x (hsub x hx) k hk).2 e, fun x hx y hy => h.ap x (hsub x hx) y (hsub y hy), fun x hx => h.of_ x (hsub x hx), h.dm, h.kd, h.km⟩, fun k hk => ?_⟩
  · have := owns_size hm
    rw [dm_del] at this
    rwa [dm_size] at this
  · rcases hk with e | e | ⟨x, hx, hk⟩
    · exact .inl e
    · exact .inr (.inl e)
    · exact .inr (.inr ⟨x, hsub x hx, hk⟩)
/-- A segment more, in a block that is new since w. -/
theorem Dk.ins1 {w1 : World} (h0 : Dk w K d mb room used fuse down M) (h : Dk w1 K d mb room used fuse down M) {s : Sg} (hne : ∀ t ∈ M, t.n ≠ s.n) (t : Tn (· = mb) w1 w') {nn : Nat} (hm : w'.ownsMap Try.prog 3 ptrE mb nn ((Dm M).put (.int .i64 s.n) (.lit (.int .i64 s.g)))) (hc : SgC w' K s) (hnew : ∀ k, bl s k → w.heap.size ≤ k) :
    Dk w' K d mb room used fuse down (ins s M) ∧ ∀ k, blD d mb (ins s M) k → blD d mb M k ∨ w.heap.size ≤ k := by
  have hlow : ∀ x ∈ M, ∀ k, bl x k → k < w.heap.size := fun x hx k hk => ((h0.sg x hx).bl hk).2
  have hd := h0.lt
  have hm0 := h0.mp.lt
  refine ⟨⟨t.cell h.c0 h.dm, t.cell h.c1 h.dm, t.cell h.c2 h.dm, t.cell h.c3 h.dm, t.cell h.c4 h.dm, fun o => (t.frozen (p := ⟨d, o, none⟩) h.lt h.dm).trans (h.fr o), ?_, h.ri.ins hne, fun x hx => ?_, fun x hx y hy hxy k hk hk2 => ?_, fun x hx k hk => ?_, h.dm, h.kd, h.km⟩, fun k hk => ?_⟩
  · have := owns_size hm
    rw [dm_put s hne] at this
    rwa [dm_size] at this
  · rcases mem_ins.1 hx with rfl | hx
    · exact hc
    · exact (h.sg x hx).tn t fun k hk e => (h.of_ x hx k hk).2 e
  · rcases mem_ins.1 hx with rfl | hx' <;> rcases mem_ins.1 hy with rfl | hy'
    · exact hxy rfl
    · have := hnew k hk; have := hlow y hy' k hk2; omega
    · have := hnew k hk2; have := hlow x hx' k hk; omega
    · exact h.ap x hx' y hy' hxy k hk hk2
  · rcases mem_ins.1 hx with rfl | hx
    · have := hnew k hk; omega
    · exact h.of_ x hx k hk
  · rcases hk with e | e | ⟨x, hx, hk⟩
    · exact .inl (.inl e)
    · exact .inl (.inr (.inl e))
    · rcases mem_ins.1 hx with rfl | hx
      · exact .inr (hnew k hk)
      · exact .inl (.inr (.inr ⟨x, hx, hk⟩))
end
end Go.Proofs.Ytkkaehaoahpibaa
namespace Go.Proofs.Ytkkaehaoahpibaa
open Go.RowKit Go.Maps

theorem keyI : Keyed Try.prog 3 := int_keyed Try.underlying3
theorem zeroP (w : World) : (zeroValue 93).run Try.prog w = .ok (.pointer none) w := by kernel_rfl
theorem wf64 {n : Int} (h1 : -9223372036854775808 ≤ n) (h2 : n ≤ 9223372036854775807) : (Lit.int .i64 n).wf = true := by
  simp [Lit.wf, IntKind.min, IntKind.max, IntKind.signed, IntKind.bits]; omega
section
variable {w : World} {K d mb : Nat} {room used fuse : Int} {down : Bool} {M : List Sg}
/-- What the map has at a number. -/
theorem Dk.look (h : Dk w K d mb room used fuse down M) {s : Sg} (hs : s ∈ M) : (Instr.lookup 56 (.map (some mb)) (.int .i64 s.n) false).run Try.prog w = .ok (.pointer (some ⟨s.g, 0, none⟩)) w := by
  have hc := h.sg s hs
  have n1 := hc.n1
  have n2 := hc.n2
  obtain ⟨v, ps, hrun, hv⟩ := h.mp.lookup keyI Try.underlying56 (zeroP w) (zd := .nil) (zp := []) rfl (keyOf_int_mk Try.underlying3 (wf64 (by omega) n2))
  rw [dm_at h.ri hs] at hv
  rw [ptrE_lit hv] at hrun
  exact hrun
theorem Dk.miss (h : Dk w K d mb room used fuse down M) {n : Int} (h1 : -9223372036854775808 ≤ n) (h2 : n ≤ 9223372036854775807) (hn : ∀ t ∈ M, t.n ≠ n) : (Instr.lookup 56 (.map (some mb)) (.int .i64 n) false).run Try.prog w = .ok (.pointer none) w := by
  obtain ⟨v, ps, hrun, hv⟩ := h.mp.lookup keyI Try.underlying56 (zeroP w) (zd := .nil) (zp := []) rfl (keyOf_int_mk Try.underlying3 (wf64 h1 h2))
  rw [dm_not hn] at hv
  rw [ptrE_nil hv] at hrun
  exact hrun
end
abbrev dP (d : Nat) : Value := .pointer (some ⟨d, 0, none⟩)
section
variable (K d mb : Nat) (room used fuse : Int) (down : Bool) (M : List Sg) (w : World)
theorem ready_nil : Calls Try.prog 51 #[.pointer none] w fun e w' => e = .returned (.int .i64 2) ∧ w' = w := by
  go_enter Try.func51, Try.ntmps51
  go_wp2
  go_ret
  exact ⟨rfl, rfl⟩
theorem ready_any (h : Dk w K d mb room used fuse down M) : Calls Try.prog 51 #[dP d] w fun e w' => e = .returned (.int .i64 (if down then 5 else 0)) ∧ w' = w := by
  have c4 := h.c4
  cases down
  · go_enter Try.func51, Try.ntmps51
    go_wp2
    go_ret
    exact ⟨rfl, rfl⟩
  · go_enter Try.func51, Try.ntmps51
    go_wp2
    go_ret
    exact ⟨rfl, rfl⟩
theorem dlook_nil (n : Int) : Calls Try.prog 49 #[.pointer none, .int .i64 n] w fun e w' => e = .returned (.int .i64 2) ∧ w' = w := by
  go_enter Try.func49, Try.ntmps49
  go_wp2_with (go_at_call 51; refine (ready_nil _).mono ?_; rintro e w' ⟨rfl, rfl⟩)
  go_ret
  exact ⟨rfl, rfl⟩
theorem dlook_down (h : Dk w K d mb room used fuse true M) (n : Int) : Calls Try.prog 49 #[dP d, .int .i64 n] w fun e w' => e = .returned (.int .i64 5) ∧ w' = w := by
  go_enter Try.func49, Try.ntmps49
  go_wp2_with (go_at_call 51; refine (ready_any K d mb room used fuse true M _ h).mono ?_; rintro e w' ⟨rfl, rfl⟩)
  go_ret
  exact ⟨rfl, rfl⟩
theorem dlook_none (h : Dk w K d mb room used fuse false M) {n : Int} (h1 : -9223372036854775808 ≤ n) (h2 : n ≤ 9223372036854775807) (hn : ∀ t ∈ M, t.n ≠ n) : Calls Try.prog 49 #[dP d, .int .i64 n] w fun e w' => e = .returned (.int .i64 6) ∧ w' = w := by
  have c2 := h.c2
  have hl := h.miss h1 h2 hn
  have HR := Lib.hid (ready_any K d mb room used fuse false M _ h)
  go_enter Try.func49, Try.ntmps49
  go_wp2_with (go_at_call 51; refine HR.out.mono ?_; rintro e w' ⟨rfl, rfl⟩)
  go_ret
  exact ⟨rfl, rfl⟩
theorem dlook_ok (h : Dk w K d mb room used fuse false M) {s : Sg} (hs : s ∈ M) : Calls Try.prog 49 #[dP d, .int .i64 s.n] w fun e w' => e = .returned (.int .i64 0) ∧ w' = w := by
  have c2 := h.c2
  have hl := h.look hs
  have HR := Lib.hid (ready_any K d mb room used fuse false M _ h)
  go_enter Try.func49, Try.ntmps49
  go_wp2_with (go_at_call 51; refine HR.out.mono ?_; rintro e w' ⟨rfl, rfl⟩)
  go_ret
  exact ⟨rfl, rfl⟩
theorem step_none (h : Dk w K d mb room used 0 down M) : Calls Try.prog 47 #[dP d] w fun e w' => e = .returned (.bool false) ∧ Dk w' K d mb room used 0 true M ∧ Tn (· = d) w w' := by
  have c3 := h.c3
  have c4 := h.c4
  have f4 := h.fr 4
  have HD := Lib.hid h
  clear h
  go_enter Try.func47, Try.ntmps47
  go_wp2
  go_ret
  exact ⟨rfl, HD.out.set4 true, Tn.setCell _ _ _ _⟩
theorem step_free (h : Dk w K d mb room used fuse false M) (hf : fuse < 0) : Calls Try.prog 47 #[dP d] w fun e w' => e = .returned (.bool true) ∧ w' = w := by
  have c3 := h.c3
  have c4 := h.c4
  have h0 : (fuse == (0 : Int)) = false := by simp; omega
  have h1 : ¬ 0 < fuse := by omega
  clear h
  go_enter Try.func47, Try.ntmps47
  go_wp2
  go_ret
  exact ⟨rfl, rfl⟩
theorem step_fuse (h : Dk w K d mb room used fuse false M) (hf : 0 < fuse) (hf2 : fuse ≤ 9223372036854775807) : Calls Try.prog 47 #[dP d] w fun e w' => e = .returned (.bool true) ∧ Dk w' K d mb room used (fuse - 1) false M ∧ Tn (· = d) w w' := by
  have c3 := h.c3
  have c4 := h.c4
  have f3 := h.fr 3
  have h0 : (fuse == (0 : Int)) = false := by simp; omega
  have HD := Lib.hid h
  clear h
  go_enter Try.func47, Try.ntmps47
  go_wp2
  go_ret
  exact ⟨rfl, HD.out.set3 (fuse - 1), Tn.setCell _ _ _ _⟩
end
end Go.Proofs.Ytkkaehaoahpibaa
namespace Go.Proofs
open Go.Shelf
def Try.laysSlM5_f65_ren : Go.Shelf.Ren := ⟨fun | 5 => 65 | 8 => 71 | 7 => 70 | 19 => 81 | 20 => 82 | 10 => 72 | 11 => 73 | 12 => 74 | 13 => 75 | 14 => 76 | 15 => 77 | 16 => 78 | 17 => 79 | 18 => 80 | 30 => 83 | 31 => 84 | 32 => 85 | 33 => 86 | 34 => 87 | 35 => 88 | 40 => 89 | n => n, fun | 23 => 33 | 25 => 3 | 3 => 3 | 32 => 25 | 22 => 33 | 0 => 0 | 44 => 109 | 46 => 135 | 4 => 4 | 36 => 127 | 35 => 126 | 41 => 131 | 5 => 5 | 9 => 9 | 53 => 136 | 57 => 140 | 63 => 142 | 64 => 143 | n => n, fun | n => n⟩
theorem Try.laysSlM5_f65 : Go.Proofs.SlLaysM.n5 Try.prog Try.laysSlM5_f65_ren := {
  mixed := by kernel_rfl
  f5 := ⟨Try.f65.name, by decide, Try.func65.trans (congrArg some (by kernel_rfl))⟩
  f7 := ⟨Try.f70.name, by decide, Try.func70.trans (congrArg some (by kernel_rfl))⟩
  f8 := Try.func71.trans (congrArg some (by kernel_rfl))
  f10 := ⟨Try.f72.name, by decide, Try.func72.trans (congrArg some (by kernel_rfl))⟩
  f11 := ⟨Try.f73.name, by decide, Try.func73.trans (congrArg some (by kernel_rfl))⟩
  f12 := ⟨Try.f74.name, by decide, Try.func74.trans (congrArg some (by kernel_rfl))⟩
  f13 := ⟨Try.f75.name, by decide, Try.func75.trans (congrArg some (by kernel_rfl))⟩
  f14 := ⟨Try.f76.name, by decide, Try.func76.trans (congrArg some (by kernel_rfl))⟩
  f15 := ⟨Try.f77.name, by decide, Try.func77.trans (congrArg some (by kernel_rfl))⟩
  f16 := ⟨Try.f78.name, by decide, Try.func78.trans (congrArg some (by kernel_rfl))⟩
  f17 := ⟨Try.f79.name, by decide, Try.func79.trans (congrArg some (by kernel_rfl))⟩
  f18 := ⟨Try.f80.name, by decide, Try.func80.trans (congrArg some (by kernel_rfl))⟩
  f19 := Try.func81.trans (congrArg some (by kernel_rfl))
  f20 := Try.func82.trans (congrArg some (by kernel_rfl))
  f30 := ⟨Try.f83.name, by decide, Try.func83.trans (congrArg some (by kernel_rfl))⟩
  f31 := Try.func84.trans (congrArg some (by kernel_rfl))
  f32 := Try.func85.trans (congrArg some (by kernel_rfl))
  f33 := ⟨Try.f86.name, by decide, Try.func86.trans (congrArg some (by kernel_rfl))⟩
  f34 := ⟨Try.f87.name, by decide, Try.func87.trans (congrArg some (by kernel_rfl))⟩
  f35 := ⟨Try.f88.name, by decide, Try.func88.trans (congrArg some (by kernel_rfl))⟩
  f40 := ⟨Try.f89.name, by decide, Try.func89.trans (congrArg some (by kernel_rfl))⟩
  t0 := Try.underlying0
  a0 := Try.isAgg0
  z0 := Try.sizeOf0
  v0 := Try.zeroValue0
  t3 := Try.underlying3
  a3 := Try.isAgg3
  z3 := Try.sizeOf3
  v3 := Try.zeroValue3
  t4 := Try.underlying4
  a4 := Try.isAgg4
  z4 := Try.sizeOf4
  v4 := Try.zeroValue4
  t5 := Try.underlying5
  a5 := Try.isAgg5
  z5 := Try.sizeOf5
  v5 := Try.zeroValue5
  t9 := Try.underlying9
  a9 := Try.isAgg9
  z9 := Try.sizeOf9
  v9 := Try.zeroValue9
  t22 := Try.underlying33
  a22 := Try.isAgg33
  z22 := Try.sizeOf33
  v22 := Try.zeroValue33
  t23 := Try.underlying33
  a23 := Try.isAgg33
  z23 := Try.sizeOf33
  v23 := Try.zeroValue33
  t25 := Try.underlying3
  a25 := Try.isAgg3
  z25 := Try.sizeOf3
  v25 := Try.zeroValue3
  t32 := Try.underlying25
  a32 := Try.isAgg25
  z32 := Try.sizeOf25
  v32 := Try.zeroValue25
  t35 := Try.underlying126
  a35 := Try.isAgg126
  z35 := Try.sizeOf126
  v35 := Try.zeroValue126
  t36 := Try.underlying127
  a36 := Try.isAgg127
  z36 := Try.sizeOf127
  v36 := Try.zeroValue127
  t41 := Try.underlying131
  a41 := Try.isAgg131
  z41 := Try.sizeOf131
  v41 := Try.zeroValue131
  t44 := Try.underlying109
  a44 := Try.isAgg109
  z44 := Try.sizeOf109
  v44 := Try.zeroValue109
  t46 := Try.underlying135
  a46 := Try.isAgg135
  z46 := Try.sizeOf135
  v46 := Try.zeroValue135
  t53 := Try.underlying136
  a53 := Try.isAgg136
  z53 := Try.sizeOf136
  v53 := Try.zeroValue136
  t57 := Try.underlying140
  a57 := Try.isAgg140
  z57 := Try.sizeOf140
  v57 := Try.zeroValue140
  t63 := Try.underlying142
  a63 := Try.isAgg142
  z63 := Try.sizeOf142
  v63 := Try.zeroValue142
  t64 := Try.underlying143
  a64 := Try.isAgg143
  z64 := Try.sizeOf143
  v64 := Try.zeroValue143 }
open Go.Sort Go.RowKit in
theorem Try.slices_Sort_int (blk off cap : Nat) (zs : List Int) (w : World) (hH : Holds (Value.int .i64) w blk off zs.toArray) (hblk : blk < w.heap.size) (hsz : zs.length < 4611686018427387904) :
    Calls Try.prog 65 #[.slice (some ⟨blk, off, none⟩) zs.length cap] w fun e w' =>
      e = .returned (.tuple #[]) ∧ ∃ n os, w' = grow (putRow (Value.int .i64) (Sort.ahead w n) blk off (zs.mergeSort fun x y => decide (x ≤ y)).toArray) os := AnyM.slices_Sort_int Try.laysSlM5_f65 blk off cap zs w hH hblk hsz
open Go.RowKit Go.Sort in
/-- .. and plain. (LAID AT THE INSTANCE 'slices.Sort[[]int,int]': no walk: one application.) -/
theorem Try.slices_Sort_int_none (p : Option Addr) (cap : Nat) (w : World) :
    Calls Try.prog 65 #[.slice p 0 cap] w fun e w' => e = .returned (.tuple #[]) ∧ w' = w := AnyM.slices_Sort_int_none Try.laysSlM5_f65 p cap w
def Try.keysA_ren : Go.Shelf.Ren := ⟨fun | 7 => 59 | 10 => 66 | n => n, fun | 23 => 56 | 26 => 3 | 3 => 93 | 28 => 113 | 0 => 0 | 27 => 112 | 33 => 121 | 4 => 4 | n => n, fun | n => n⟩
theorem Try.keysA : Go.Proofs.SlLaysZI.n7 Try.prog Try.keysA_ren := {
  mixed := by kernel_rfl
  f7 := ⟨Try.f59.name, by decide, Try.func59.trans (congrArg some (by kernel_rfl))⟩
  f10 := ⟨Try.f66.name, by decide, Try.func66.trans (congrArg some (by kernel_rfl))⟩
  t0 := Try.underlying0
  a0 := Try.isAgg0
  z0 := Try.sizeOf0
  v0 := Try.zeroValue0
  t4 := Try.underlying4
  a4 := Try.isAgg4
  z4 := Try.sizeOf4
  v4 := Try.zeroValue4
  t23 := Try.underlying56
  a23 := Try.isAgg56
  z23 := Try.sizeOf56
  v23 := Try.zeroValue56
  t26 := Try.underlying3
  a26 := Try.isAgg3
  z26 := Try.sizeOf3
  v26 := Try.zeroValue3
  t27 := Try.underlying112
  a27 := Try.isAgg112
  z27 := Try.sizeOf112
  v27 := Try.zeroValue112
  t28 := Try.underlying113
  a28 := Try.isAgg113
  z28 := Try.sizeOf113
  v28 := Try.zeroValue113
  t33 := Try.underlying121
  a33 := Try.isAgg121
  z33 := Try.sizeOf121
  v33 := Try.zeroValue121 }
def Try.sortedA_ren : Go.Shelf.Ren := ⟨fun | 6 => 58 | 8 => 64 | 9 => 65 | 11 => 69 | 13 => 71 | 12 => 70 | 23 => 81 | 24 => 82 | 14 => 72 | 15 => 73 | 16 => 74 | 17 => 75 | 18 => 76 | 19 => 77 | 20 => 78 | 21 => 79 | 22 => 80 | 25 => 83 | 26 => 84 | 27 => 85 | 28 => 86 | 29 => 87 | 30 => 88 | 31 => 89 | n => n, fun | 26 => 3 | 28 => 113 | 24 => 33 | 0 => 0 | 3 => 3 | 37 => 25 | 48 => 109 | 50 => 135 | 4 => 4 | 40 => 127 | 39 => 126 | 45 => 131 | 5 => 5 | 9 => 9 | 51 => 136 | 55 => 140 | 57 => 142 | 58 => 143 | 33 => 121 | n => n, fun | n => n⟩
theorem Try.sortedA : Go.Proofs.SlLaysZI.n6 Try.prog Try.sortedA_ren := {
  mixed := by kernel_rfl
  f6 := ⟨Try.f58.name, by decide, Try.func58.trans (congrArg some (by kernel_rfl))⟩
  f8 := ⟨Try.f64.name, by decide, Try.func64.trans (congrArg some (by kernel_rfl))⟩
  f11 := ⟨Try.f69.name, by decide, Try.func69.trans (congrArg some (by kernel_rfl))⟩
  t0 := Try.underlying0
  a0 := Try.isAgg0
  z0 := Try.sizeOf0
  v0 := Try.zeroValue0
  t24 := Try.underlying33
  a24 := Try.isAgg33
  z24 := Try.sizeOf33
  v24 := Try.zeroValue33
  t26 := Try.underlying3
  a26 := Try.isAgg3
  z26 := Try.sizeOf3
  v26 := Try.zeroValue3
  t28 := Try.underlying113
  a28 := Try.isAgg113
  z28 := Try.sizeOf113
  v28 := Try.zeroValue113
  i26 := by kernel_rfl }
def Try.sortA_ren : Go.Shelf.Ren := ⟨fun | 5 => 65 | 8 => 71 | 7 => 70 | 19 => 81 | 20 => 82 | 10 => 72 | 11 => 73 | 12 => 74 | 13 => 75 | 14 => 76 | 15 => 77 | 16 => 78 | 17 => 79 | 18 => 80 | 30 => 83 | 31 => 84 | 32 => 85 | 33 => 86 | 34 => 87 | 35 => 88 | 40 => 89 | n => n, fun | 23 => 33 | 25 => 3 | 3 => 3 | 32 => 25 | 22 => 33 | 0 => 0 | 44 => 109 | 46 => 135 | 4 => 4 | 36 => 127 | 35 => 126 | 41 => 131 | 5 => 5 | 9 => 9 | 53 => 136 | 57 => 140 | 63 => 142 | 64 => 143 | n => n, fun | n => n⟩
theorem Try.sortA : Go.Proofs.SlLaysM.n5 Try.prog Try.sortA_ren := {
  mixed := by kernel_rfl
  f5 := ⟨Try.f65.name, by decide, Try.func65.trans (congrArg some (by kernel_rfl))⟩
  f7 := ⟨Try.f70.name, by decide, Try.func70.trans (congrArg some (by kernel_rfl))⟩
  f8 := Try.func71.trans (congrArg some (by kernel_rfl))
  f10 := ⟨Try.f72.name, by decide, Try.func72.trans (congrArg some (by kernel_rfl))⟩
  f11 := ⟨Try.f73.name, by decide, Try.func73.trans (congrArg some (by kernel_rfl))⟩
  f12 := ⟨Try.f74.name, by decide, Try.func74.trans (congrArg some (by kernel_rfl))⟩
  f13 := ⟨Try.f75.name, by decide, Try.func75.trans (congrArg some (by kernel_rfl))⟩
  f14 := ⟨Try.f76.name, by decide, Try.func76.trans (congrArg some (by kernel_rfl))⟩
  f15 := ⟨Try.f77.name, by decide, Try.func77.trans (congrArg some (by kernel_rfl))⟩
  f16 := ⟨Try.f78.name, by decide, Try.func78.trans (congrArg some (by kernel_rfl))⟩
  f17 := ⟨Try.f79.name, by decide, Try.func79.trans (congrArg some (by kernel_rfl))⟩
  f18 := ⟨Try.f80.name, by decide, Try.func80.trans (congrArg some (by kernel_rfl))⟩
  f19 := Try.func81.trans (congrArg some (by kernel_rfl))
  f20 := Try.func82.trans (congrArg some (by kernel_rfl))
  f30 := ⟨Try.f83.name, by decide, Try.func83.trans (congrArg some (by kernel_rfl))⟩
  f31 := Try.func84.trans (congrArg some (by kernel_rfl))
  f32 := Try.func85.trans (congrArg some (by kernel_rfl))
  f33 := ⟨Try.f86.name, by decide, Try.func86.trans (congrArg some (by kernel_rfl))⟩
  f34 := ⟨Try.f87.name, by decide, Try.func87.trans (congrArg some (by kernel_rfl))⟩
  f35 := ⟨Try.f88.name, by decide, Try.func88.trans (congrArg some (by kernel_rfl))⟩
  f40 := ⟨Try.f89.name, by decide, Try.func89.trans (congrArg some (by kernel_rfl))⟩
  t0 := Try.underlying0
  a0 := Try.isAgg0
  z0 := Try.sizeOf0
  v0 := Try.zeroValue0
  t3 := Try.underlying3
  a3 := Try.isAgg3
  z3 := Try.sizeOf3
  v3 := Try.zeroValue3
  t4 := Try.underlying4
  a4 := Try.isAgg4
  z4 := Try.sizeOf4
  v4 := Try.zeroValue4
  t5 := Try.underlying5
  a5 := Try.isAgg5
  z5 := Try.sizeOf5
  v5 := Try.zeroValue5
  t9 := Try.underlying9
  a9 := Try.isAgg9
  z9 := Try.sizeOf9
  v9 := Try.zeroValue9
  t22 := Try.underlying33
  a22 := Try.isAgg33
  z22 := Try.sizeOf33
  v22 := Try.zeroValue33
  t23 := Try.underlying33
  a23 := Try.isAgg33
  z23 := Try.sizeOf33
  v23 := Try.zeroValue33
  t25 := Try.underlying3
  a25 := Try.isAgg3
  z25 := Try.sizeOf3
  v25 := Try.zeroValue3
  t32 := Try.underlying25
  a32 := Try.isAgg25
  z32 := Try.sizeOf25
  v32 := Try.zeroValue25
  t35 := Try.underlying126
  a35 := Try.isAgg126
  z35 := Try.sizeOf126
  v35 := Try.zeroValue126
  t36 := Try.underlying127
  a36 := Try.isAgg127
  z36 := Try.sizeOf127
  v36 := Try.zeroValue127
  t41 := Try.underlying131
  a41 := Try.isAgg131
  z41 := Try.sizeOf131
  v41 := Try.zeroValue131
  t44 := Try.underlying109
  a44 := Try.isAgg109
  z44 := Try.sizeOf109
  v44 := Try.zeroValue109
  t46 := Try.underlying135
  a46 := Try.isAgg135
  z46 := Try.sizeOf135
  v46 := Try.zeroValue135
  t53 := Try.underlying136
  a53 := Try.isAgg136
  z53 := Try.sizeOf136
  v53 := Try.zeroValue136
  t57 := Try.underlying140
  a57 := Try.isAgg140
  z57 := Try.sizeOf140
  v57 := Try.zeroValue140
  t63 := Try.underlying142
  a63 := Try.isAgg142
  z63 := Try.sizeOf142
  v63 := Try.zeroValue142
  t64 := Try.underlying143
  a64 := Try.isAgg143
  z64 := Try.sizeOf143
  v64 := Try.zeroValue143 }
end Go.Proofs
