/- What a law over a post holds between its calls. -/
import Derived.Test.YtejbjnjnabcleaaPSm
import Derived.Test.YtejbjnjnabcleaaPOp
namespace Go.Proofs.Ytejbjnjnabcleaa
open Go.RowKit Go.Conc

theorem made_cs (w : World) (cs : Array Value) (T : TypeId) : CS (w.alloc (.cells cs T)) w.heap.size cs.toList :=
  ⟨fun i v hi => by simpa using hi, fun o => by simp, by simp⟩
/-- Two cells of a box, written. -/
theorem put_cs {w : World} {b : Nat} {x y : Value} (h : CS w b [x, y]) (x' y' : Value) : CS ((w.setCell ⟨b, 0, none⟩ x').setCell ⟨b, 1, none⟩ y') b [x', y'] ∧ Tn (· = b) w ((w.setCell ⟨b, 0, none⟩ x').setCell ⟨b, 1, none⟩ y') := by
  have h0 := h.at_ 0 _ rfl
  have h1 := h.at_ 1 _ rfl
  refine ⟨⟨fun i v hi => ?_, fun o => ?_, ?_⟩, (Tn.setCell w b 0 x').then (Tn.setCell _ b 1 y')⟩
  · match i, hi with
    | 0, hi =>
      simp at hi
      subst hi
      rw [World.cell?_setCell_other _ _ _ _ (by simp)]
      exact World.cell?_setCell_same' _ _ _ (by rw [h0]; rfl)
    | 1, hi =>
      simp at hi
      subst hi
      exact World.cell?_setCell_same' _ _ _ (by rw [World.cell?_setCell_other _ _ _ _ (by simp), h1]; rfl)
    | i + 2, hi => simp at hi
  · rw [World.frozen?_setCell, World.frozen?_setCell]; exact h.fr o
  · have := h.lt
    simpa [World.setCell] using this
/-- The posts; the boxes L of the law; its bytes LB: all apart. -/
structure St8 (w W : World) (p ch n : Nat) (mp : List Rm) (A : Option Addr) (c : Nat) (md : List Rm) (L : List (Nat × List Value)) (LB : List (Value × List UInt8)) : Prop where
  out : ∃ S, PD W S w.heap.size p ch n mp A c md ∧ (∀ x ∈ L, CS W x.1 x.2 ∧ S x.1) ∧ (∀ y ∈ LB, Ob W w.heap.size y.1 y.2 ∧ ∀ k, y.1.ownBlock = some k → S k ∧ ∀ x ∈ L, x.1 ≠ k)
  B : Below w.heap.size w W
section
variable {w W W' : World} {p ch n c : Nat} {mp md : List Rm} {A : Option Addr} {L : List (Nat × List Value)} {LB : List (Value × List UInt8)}
theorem St8.z (h : St8 w W p ch n mp A c md L LB) : w.heap.size ≤ W.heap.size := h.B.size
theorem St8.bx (h : St8 w W p ch n mp A c md L LB) {b : Nat} {cs : List Value} (hx : (b, cs) ∈ L) : CS W b cs := by
  obtain ⟨S, _, hL, _⟩ := h.out
  exact (hL _ hx).1
theorem St8.ob (h : St8 w W p ch n mp A c md L LB) {v : Value} {l : List UInt8} (hx : (v, l) ∈ LB) : Ob W w.heap.size v l := by
  obtain ⟨S, _, _, hB⟩ := h.out
  exact (hB _ hx).1
theorem St8.new (h : St8 w W p ch n mp A c md L LB) (hb : Below W.heap.size W W') : St8 w W' p ch n mp A c md L LB := by
  obtain ⟨S, hp, hL, hB⟩ := h.out
  exact ⟨⟨S, hp.below hb, fun x hx => ⟨(hL x hx).1.below hb, (hL x hx).2⟩, fun y hy => ⟨(hB y hy).1.below hb, (hB y hy).2⟩⟩, h.B.trans (hb.mono h.z)⟩
theorem St8.doc (h : St8 w W p ch n mp A c md L LB) {A' : Option Addr} {c' : Nat} {md' : List Rm} (hb : Below W.heap.size W W') (hd : ∀ S, PD W S w.heap.size p ch n mp A c md → PD W' S w.heap.size p ch n mp A' c' md') : St8 w W' p ch n mp A' c' md' L LB := by
  obtain ⟨S, hp, hL, hB⟩ := h.out
  exact ⟨⟨S, hd S hp, fun x hx => ⟨(hL x hx).1.below hb, (hL x hx).2⟩, fun y hy => ⟨(hB y hy).1.below hb, (hB y hy).2⟩⟩, h.B.trans (hb.mono h.z)⟩
theorem St8.box (h : St8 w W p ch n mp A c md L LB) (cs : Array Value) (T : TypeId) : St8 w (W.alloc (.cells cs T)) p ch n mp A c md ((W.heap.size, cs.toList) :: L) LB := by
  obtain ⟨S, hp, hL, hB⟩ := h.out
  have hb : Below W.heap.size W (W.alloc (.cells cs T)) := (Below.refl _ _).alloc (Nat.le_refl _) _
  refine ⟨⟨_, hp.safe hb, fun x hx => ?_, fun y hy => ⟨(hB y hy).1.below hb, fun k hk => ⟨.inl ((hB y hy).2 k hk).1, fun x hx => ?_⟩⟩⟩, h.B.trans (hb.mono h.z)⟩
  · rcases List.mem_cons.1 hx with rfl | hx
    · exact ⟨made_cs _ _ _, .inr ⟨Nat.le_refl _, by simp⟩⟩
    · exact ⟨(hL x hx).1.below hb, .inl (hL x hx).2⟩
  · rcases List.mem_cons.1 hx with rfl | hx
    · intro e
      have := ((hB y hy).1.lt k hk).2
      omega
    · exact ((hB y hy).2 k hk).2 x hx
theorem St8.bytes (h : St8 w W p ch n mp A c md L LB) {v : Value} {l : List UInt8} (hb : Below W.heap.size W W') (ho : Ob W' W.heap.size v l) : St8 w W' p ch n mp A c md L ((v, l) :: LB) := by
  obtain ⟨S, hp, hL, hB⟩ := h.out
  refine ⟨⟨_, hp.safe hb, fun x hx => ⟨(hL x hx).1.below hb, .inl (hL x hx).2⟩, fun y hy => ?_⟩, h.B.trans (hb.mono h.z)⟩
  rcases List.mem_cons.1 hy with rfl | hy
  · refine ⟨ho.more h.z, fun k hk => ⟨.inr (ho.lt k hk), fun x hx e => ?_⟩⟩
    have h1 := (hL x hx).1.lt
    have h2 := (ho.lt k hk).1
    omega
  · exact ⟨(hB y hy).1.below hb, fun k hk => ⟨.inl ((hB y hy).2 k hk).1, ((hB y hy).2 k hk).2⟩⟩
theorem St8.sub (h : St8 w W p ch n mp A c md L LB) {L' : List (Nat × List Value)} {LB' : List (Value × List UInt8)} (h1 : ∀ x ∈ L', x ∈ L) (h2 : ∀ y ∈ LB', y ∈ LB) : St8 w W p ch n mp A c md L' LB' := by
  obtain ⟨S, hp, hL, hB⟩ := h.out
  exact ⟨⟨S, hp, fun x hx => hL x (h1 x hx), fun y hy => ⟨(hB y (h2 y hy)).1, fun k hk => ⟨((hB y (h2 y hy)).2 k hk).1, fun x hx => ((hB y (h2 y hy)).2 k hk).2 x (h1 x hx)⟩⟩⟩, h.B⟩
/-- A method of the program's. -/
theorem St8.prog (h : St8 w W p ch n mp A c md L LB) {F : FuncId} {args : Array Value} {R : Ending → World → Prop} {mp' : List Rm}
    (hc : ∀ S, PD W S w.heap.size p ch n mp A c md → (∀ y ∈ LB, ∀ k, y.1.ownBlock = some k → S k) → Calls Try.prog F args W fun e W' => R e W' ∧ PD W' S w.heap.size p ch n mp' A c md ∧ Tn (fun k => w.heap.size ≤ k ∧ ¬ S k) W W') :
    Calls Try.prog F args W fun e W' => R e W' ∧ St8 w W' p ch n mp' A c md L LB := by
  obtain ⟨S, hp, hL, hB⟩ := h.out
  refine (hc S hp fun y hy k hk => ((hB y hy).2 k hk).1).mono ?_
  rintro e W' ⟨hR, hp', ht⟩
  exact ⟨hR, ⟨S, hp', fun x hx => ⟨(hL x hx).1.tn ht fun e => e.2 (hL x hx).2, (hL x hx).2⟩, fun y hy => ⟨ht.ob (hB y hy).1 fun k hk e => e.2 ((hB y hy).2 k hk).1, (hB y hy).2⟩⟩, h.B.trans (ht.below h.z fun _ _ e => e.1)⟩
theorem St8.send (x : Rm) {bA : Option Addr} {bc : Nat} (h : St8 w W p ch n mp A c md L [(.slice bA x.b.length bc, x.b)]) (hsz : x.b.length ≤ 1048576) (hr : mp.length < n) (hroom : n ≤ 4096) :
    Calls Try.prog 8 #[.pointer (some ⟨p, 0, none⟩), .agg #[.int .i64 x.f, .int .i64 x.t, .slice bA x.b.length bc]] W fun e W' => e = .returned (.int .i64 0) ∧ St8 w W' p ch n (mp ++ [x]) A c md L [(.slice bA x.b.length bc, x.b)] := by
  refine h.prog (R := fun e _ => e = .returned (.int .i64 0)) fun S hp hS => ?_
  have hob := (h.ob (List.mem_cons_self ..)).bs.1
  exact hp.send x hob (fun _ ad e => hS _ (List.mem_cons_self ..) ad.block (by subst e; obtain ⟨g, e2, _⟩ := (h.ob (List.mem_cons_self ..)).addr (by assumption); cases e2; rfl)) hsz hr hroom
theorem St8.take {i : Nat} {x : Rm} (h : St8 w W p ch n mp A c md L []) (hx : mp[i]? = some x) (hsz : x.b.length ≤ 140737488355328) (hroom : n ≤ 4096) :
    Calls Try.prog 10 #[.pointer (some ⟨p, 0, none⟩), .int .i64 (i : Int)] W fun e W' => (∃ A' c', e = .returned (.tuple #[.agg #[.int .i64 x.f, .int .i64 x.t, .slice A' x.b.length c'], .int .i64 0]) ∧ Ob W' W.heap.size (.slice A' x.b.length c') x.b) ∧ St8 w W' p ch n (mp.eraseIdx i) A c md L [] :=
  h.prog (R := fun e W' => ∃ A' c', e = .returned (.tuple #[.agg #[.int .i64 x.f, .int .i64 x.t, .slice A' x.b.length c'], .int .i64 0]) ∧ Ob W' W.heap.size (.slice A' x.b.length c') x.b) fun _ hp _ => (hp.take hx hsz hroom).mono fun _ _ ⟨A', c', h1, h2, h3, h4⟩ => ⟨⟨A', c', h1, h2⟩, h3, h4⟩
theorem St8.copy {i : Nat} {x : Rm} (h : St8 w W p ch n mp A c md L []) (hx : mp[i]? = some x) (hr : mp.length < n) (hroom : n ≤ 4096) :
    Calls Try.prog 15 #[.pointer (some ⟨p, 0, none⟩), .int .i64 (i : Int)] W fun e W' => e = .returned (.int .i64 0) ∧ St8 w W' p ch n (mp ++ [x]) A c md L [] :=
  h.prog (R := fun e _ => e = .returned (.int .i64 0)) fun _ hp _ => hp.copy hx hr hroom
theorem St8.look {i : Nat} {x : Rm} (h : St8 w W p ch n mp A c md L LB) (hx : mp[i]? = some x) (hsz : x.b.length ≤ 140737488355328) :
    Calls Try.prog 9 #[.pointer (some ⟨p, 0, none⟩), .int .i64 (i : Int)] W fun e W' => (∃ A' c', e = .returned (.tuple #[.agg #[.int .i64 x.f, .int .i64 x.t, .slice A' x.b.length c'], .int .i64 0]) ∧ Ob W' W.heap.size (.slice A' x.b.length c') x.b) ∧ St8 w W' p ch n mp A c md L LB := by
  obtain ⟨S, hp, _⟩ := h.out
  refine (hp.look hx hsz).mono ?_
  rintro e W' ⟨A', c', h1, h2, hb⟩
  exact ⟨⟨A', c', h1, h2⟩, h.new hb⟩
theorem St8.miss (h : St8 w W p ch n mp A c md L LB) {i : Int} (hi : i < 0 ∨ (mp.length : Int) ≤ i) :
    Calls Try.prog 9 #[.pointer (some ⟨p, 0, none⟩), .int .i64 i] W (fun e W' => e = .returned (noMsg 1) ∧ St8 w W' p ch n mp A c md L LB) ∧
    Calls Try.prog 10 #[.pointer (some ⟨p, 0, none⟩), .int .i64 i] W (fun e W' => e = .returned (noMsg 1) ∧ St8 w W' p ch n mp A c md L LB) ∧
    Calls Try.prog 15 #[.pointer (some ⟨p, 0, none⟩), .int .i64 i] W (fun e W' => e = .returned (.int .i64 1) ∧ St8 w W' p ch n mp A c md L LB) := by
  obtain ⟨S, hp, _⟩ := h.out
  obtain ⟨h1, h2, h3⟩ := hp.miss hi
  exact ⟨h1.mono fun e W' ⟨a, b⟩ => ⟨a, h.new b⟩, h2.mono fun e W' ⟨a, b⟩ => ⟨a, h.new b⟩, h3.mono fun e W' ⟨a, b⟩ => ⟨a, b ▸ h⟩⟩
theorem St8.sendFull (h : St8 w W p ch n mp A c md L LB) (hr : n ≤ mp.length) (f t : Int) (bA : Option Addr) (bn bc : Nat) (hsz : bn ≤ 1048576) :
    Calls Try.prog 8 #[.pointer (some ⟨p, 0, none⟩), .agg #[.int .i64 f, .int .i64 t, .slice bA bn bc]] W (fun e W' => e = .returned (.int .i64 4) ∧ St8 w W' p ch n mp A c md L LB) := by
  obtain ⟨S, hp, _⟩ := h.out
  exact ((hp.full hr).1 f t bA bn bc hsz).mono fun e W' ⟨a, b⟩ => ⟨a, h.new b⟩
theorem St8.copyFull (h : St8 w W p ch n mp A c md L LB) (hr : n ≤ mp.length) {i : Nat} (hi : i < mp.length) :
    Calls Try.prog 15 #[.pointer (some ⟨p, 0, none⟩), .int .i64 (i : Int)] W (fun e W' => e = .returned (.int .i64 4) ∧ St8 w W' p ch n mp A c md L LB) := by
  obtain ⟨S, hp, _⟩ := h.out
  exact ((hp.full hr).2 i hi).mono fun e W' ⟨a, b⟩ => ⟨a, b ▸ h⟩
theorem St8.dsend (h : St8 w W p ch n mp A c md L LB) {rm : Int} (x : Rm) {bA : Option Addr} {bc : Nat} (hb : Bs W W.heap.size bA bc x.b) (hsz : x.b.length ≤ 1048576) (hr : (md.length : Int) < rm) (hroom : rm ≤ 4096) :
    Calls Try.prog 7 #[docV rm A md.length c, .agg #[.int .i64 x.f, .int .i64 x.t, .slice bA x.b.length bc]] W fun e W' => ∃ A' c', e = .returned (.tuple #[.int .i64 0, docV rm A' (md ++ [x]).length c']) ∧ St8 w W' p ch n mp A' c' (md ++ [x]) L LB := by
  obtain ⟨S, hp, hL, hB⟩ := h.out
  refine (hp.dsend x hb hsz hr hroom).mono ?_
  rintro e W' ⟨A', c', h1, hp', hb⟩
  exact ⟨A', c', h1, ⟨S, hp', fun x hx => ⟨(hL x hx).1.below hb, (hL x hx).2⟩, fun y hy => ⟨(hB y hy).1.below hb, (hB y hy).2⟩⟩, h.B.trans (hb.mono h.z)⟩
theorem St8.without (h : St8 w W p ch n mp A c md L LB) {rm : Int} {i : Nat} (hi : i < md.length) (hroom : md.length ≤ 4096) :
    Calls Try.prog 14 #[docV rm A md.length c, .int .i64 (i : Int)] W fun e W' => ∃ A' c', e = .returned (docV rm A' (md.eraseIdx i).length c') ∧ St8 w W' p ch n mp A' c' (md.eraseIdx i) L LB := by
  obtain ⟨S, hp, hL, hB⟩ := h.out
  refine (hp.without hi hroom).mono ?_
  rintro e W' ⟨A', c', h1, hp', hb⟩
  exact ⟨A', c', h1, ⟨S, hp', fun x hx => ⟨(hL x hx).1.below hb, (hL x hx).2⟩, fun y hy => ⟨(hB y hy).1.below hb, (hB y hy).2⟩⟩, h.B.trans (hb.mono h.z)⟩
/-- The law's own bytes are turned. -/
theorem St8.flip {v : Value} {l : List UInt8} (h : St8 w W p ch n mp A c md L [(v, l)]) (t : Tn (fun k => v.ownBlock = some k) W W') : St8 w W' p ch n mp A c md L [] := by
  obtain ⟨S, hp, hL, hB⟩ := h.out
  obtain ⟨ho, hv⟩ := hB _ (List.mem_cons_self ..)
  exact ⟨⟨S, hp.turn (t.mono fun k _ e => (hv k e).1), fun x hx => ⟨(hL x hx).1.tn t fun e => (hv _ e).2 x hx rfl, (hL x hx).2⟩, fun y hy => absurd hy (by simp)⟩, h.B.trans (t.below h.z fun k _ e => (ho.lt k e).1)⟩
/-- A box of two cells is written. -/
theorem St8.put {b : Nat} {x y : Value} (h : St8 w W p ch n mp A c md ((b, [x, y]) :: L) []) (hL : ∀ z ∈ L, z.1 ≠ b) (hb : w.heap.size ≤ b) (x' y' : Value) : St8 w ((W.setCell ⟨b, 0, none⟩ x').setCell ⟨b, 1, none⟩ y') p ch n mp A c md ((b, [x', y']) :: L) [] := by
  obtain ⟨S, hp, hX, hB⟩ := h.out
  obtain ⟨hc, hS⟩ := hX _ (List.mem_cons_self ..)
  obtain ⟨hc', t⟩ := put_cs hc x' y'
  refine ⟨⟨S, hp.turn (t.mono fun k _ e => e ▸ hS), fun z hz => ?_, fun y hy => absurd hy (by simp)⟩, h.B.trans (t.below h.z fun k _ e => e ▸ hb)⟩
  rcases List.mem_cons.1 hz with rfl | hz
  · exact ⟨hc', hS⟩
  · obtain ⟨h1, h2⟩ := hX z (List.mem_cons_of_mem _ hz)
    exact ⟨h1.tn t (hL z hz), h2⟩
/-- The law's same. -/
theorem St8.same (h : St8 w W p ch n md A c md L LB) (rm : Int) (hsz : ∀ x ∈ md, x.b.length ≤ 3000) (hroom : n ≤ 4096) :
    Calls Try.prog 16 #[.pointer (some ⟨p, 0, none⟩), docV rm A md.length c] W fun e W' => e = .returned (.bool true) ∧ St8 w W' p ch n md A c md L LB := by
  obtain ⟨S, hp, _⟩ := h.out
  exact (psame_any S _ p ch n rm md A c W hp hsz hroom).mono fun e W' ⟨a, b⟩ => ⟨a, h.new b⟩
theorem St8.get (h : St8 w W p ch n mp A c md L LB) {i : Nat} {x : Rm} (hx : md[i]? = some x) : ∃ (ad : Addr) (A' : Option Addr) (c' : Nat), A = some ad ∧ ad.block < W.heap.size ∧ W.cell? (ad.add (i * 3)) = some (.int .i64 x.f) ∧ W.cell? ⟨(ad.add (i * 3)).block, (ad.add (i * 3)).off + 1, none⟩ = some (.int .i64 x.t) ∧
    W.cell? ⟨(ad.add (i * 3)).block, (ad.add (i * 3)).off + 2, none⟩ = some (.slice A' x.b.length c') ∧ Bs W W.heap.size A' c' x.b := by
  obtain ⟨S, hp, _⟩ := h.out
  exact hp.get hx
theorem St8.le (h : St8 w W p ch n mp A c md L LB) : md.length ≤ c ∧ c ≤ maxLen := by
  obtain ⟨S, hp, _⟩ := h.out
  exact hp.le
theorem St8.inRoom (h : St8 w W p ch n mp A c md L LB) : mp.length ≤ n := by
  obtain ⟨S, hp, _⟩ := h.out
  exact hp.inRoom
end
end Go.Proofs.Ytejbjnjnabcleaa
