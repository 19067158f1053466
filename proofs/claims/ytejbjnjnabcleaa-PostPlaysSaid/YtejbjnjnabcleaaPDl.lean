/- The document's post in memory, beside the program's. -/
import Derived.Test.YtejbjnjnabcleaaPOr0
import Derived.Test.YtejbjnjnabcleaaPCopy
import Derived.Test.YtejbjnjnabcleaaPAllW
import Derived.Test.YtejbjnjnabcleaaPDocS
namespace Go.Proofs.Ytejbjnjnabcleaa
open Go.RowKit Go.Conc

theorem Sr.tn {α : Type} {enc : α → List Value} {k : Nat} {P : Nat → Prop} {w w' : World} {K cap : Nat} {A : Option Addr} {l : List α} (h : Sr enc k w K A cap l) (t : Tn P w w') (hn : 0 < l.length → ∀ ad : Addr, A = some ad → ¬ P ad.block) : Sr enc k w' K A cap l :=
  ⟨h.le, h.max, h.nil, fun hl => by
    obtain ⟨ad, e, hb, hc⟩ := h.at_ hl
    refine ⟨ad, e, hb, fun i x hi j u hu => ?_⟩
    have h1 := hc i x hi j u hu
    have hbl : (ad.add (i * k + j)).block = ad.block := block_of_add ad _
    generalize ad.add (i * k + j) = q at *
    exact t.cell h1 (by rw [hbl]; exact hn hl ad e)⟩
theorem Sr.blk {α : Type} {enc : α → List Value} {k : Nat} {w : World} {K cap : Nat} {A : Option Addr} {l : List α} (h : Sr enc k w K A cap l) (hl : 0 < l.length) {ad : Addr} (e : A = some ad) : ad.block < K := by
  obtain ⟨ad', e', hb, _⟩ := h.at_ hl
  rw [e] at e'; cases e'; exact hb

theorem Alike.snoc {l : List Mg} {ms : List Rm} (ha : Alike l ms) {m : Mg} {x : Rm} (h1 : m.f = x.f) (h2 : m.t = x.t) : Alike (l ++ [m]) (ms ++ [x]) := by
  refine ⟨by simp [ha.1], fun i m y hm hy => ?_⟩
  by_cases hi : i < l.length
  · rw [List.getElem?_append_left hi] at hm
    rw [List.getElem?_append_left (by rw [← ha.1]; exact hi)] at hy
    exact ha.2 i m y hm hy
  · rw [List.getElem?_append_right (by omega)] at hm
    rw [List.getElem?_append_right (by rw [← ha.1]; omega), ← ha.1] at hy
    have h0 : i - l.length = 0 := by
      rcases Nat.eq_zero_or_pos (i - l.length) with h0 | h0
      · exact h0
      · rw [List.getElem?_eq_none (by simp; omega)] at hm; cases hm
    rw [h0] at hm hy
    simp at hm hy
    subst hm hy
    exact ⟨h1, h2⟩
/-- The document's messages in memory, in no bad block. -/
structure Dl (w : World) (bad : Nat → Prop) (A : Option Addr) (c : Nat) (ms : List Rm) : Prop where
  out : ∃ dl : List Mg, Sr encM 3 w w.heap.size A c dl ∧ dl.length = ms.length ∧ (0 < dl.length → ∀ ad : Addr, A = some ad → ¬ bad ad.block) ∧
    ∀ (i : Nat) (m : Mg) (x : Rm), dl[i]? = some m → ms[i]? = some x → m.f = x.f ∧ m.t = x.t ∧ Bdy w bad m x.b
section
variable {w w' : World} {bad bad' P : Nat → Prop} {A : Option Addr} {c : Nat} {ms : List Rm}
theorem Dl.tn (h : Dl w bad A c ms) (t : Tn P w w') (hP : ∀ k, k < w.heap.size → P k → bad k) (hb : ∀ k, k < w.heap.size → bad' k → bad k) : Dl w' bad' A c ms := by
  obtain ⟨dl, sr, hl, hn, hd⟩ := h.out
  refine ⟨dl, (sr.tn t fun h0 ad e hk => hn h0 ad e (hP _ (sr.blk h0 e) hk)).more t.size, hl, fun h0 ad e hk => hn h0 ad e (hb _ (sr.blk h0 e) hk), fun i m x hm hx => ?_⟩
  obtain ⟨h1, h2, h3⟩ := hd i m x hm hx
  exact ⟨h1, h2, (h3.tn t fun h0 ad e hk => h3.ok h0 ad e (hP _ (h3.lt h0 e) hk)).bad fun h0 ad e hk => h3.ok h0 ad e (hb _ (h3.lt h0 e) hk)⟩
theorem Dl.new (h : Dl w bad A c ms) (hb : Below w.heap.size w w') : Dl w' bad A c ms := h.tn (Tn.ofNew (P := fun _ => False) hb) (fun _ _ h => h.elim) (fun _ _ h => h)
theorem Dl.nil (w : World) (bad : Nat → Prop) : Dl w bad none 0 [] := ⟨[], Sr.none_ _ _, rfl, fun h => absurd h (by simp), fun i m x hm _ => by simp at hm⟩
theorem Dl.get (h : Dl w bad A c ms) {i : Nat} {x : Rm} (hx : ms[i]? = some x) : ∃ (ad : Addr) (A' : Option Addr) (c' : Nat), A = some ad ∧ ad.block < w.heap.size ∧ w.cell? (ad.add (i * 3)) = some (.int .i64 x.f) ∧ w.cell? ⟨(ad.add (i * 3)).block, (ad.add (i * 3)).off + 1, none⟩ = some (.int .i64 x.t) ∧
    w.cell? ⟨(ad.add (i * 3)).block, (ad.add (i * 3)).off + 2, none⟩ = some (.slice A' x.b.length c') ∧ Bs w w.heap.size A' c' x.b := by
  obtain ⟨dl, sr, hl, hn, hd⟩ := h.out
  have hi : i < dl.length := by rw [hl]; exact (List.getElem?_eq_some_iff.1 hx).1
  obtain ⟨h1, h2, h3⟩ := hd i dl[i] x (List.getElem?_eq_getElem hi) hx
  obtain ⟨ad, hA, hb, h0, hj⟩ := sr.get2 hi
  have e0 := h0 _ rfl
  have e1 := hj 1 _ (by decide) rfl
  have e2 := hj 2 _ (by decide) rfl
  rw [h1] at e0
  rw [h2] at e1
  rw [h3.n] at e2
  exact ⟨ad, _, _, hA, hb, e0, e1, e2, h3.bs⟩
theorem Dl.le (h : Dl w bad A c ms) : ms.length ≤ c ∧ c ≤ maxLen := by
  obtain ⟨dl, sr, hl, _⟩ := h.out
  exact ⟨hl ▸ sr.le, sr.max⟩
/-- The document's Send. -/
theorem Dl.send (h : Dl w bad A c ms) (hbad : ∀ k, bad k → k < w.heap.size) {room : Int} (x : Rm) {bA : Option Addr} {bc : Nat} (hb : Bs w w.heap.size bA bc x.b) (hsz : x.b.length ≤ 1048576) (hr : (ms.length : Int) < room) (hroom : room ≤ 4096) :
    Calls Try.prog 7 #[docV room A ms.length c, .agg #[.int .i64 x.f, .int .i64 x.t, .slice bA x.b.length bc]] w fun e w' => ∃ A' c', e = .returned (.tuple #[.int .i64 0, docV room A' (ms ++ [x]).length c']) ∧ Dl w' bad A' c' (ms ++ [x]) ∧ Below w.heap.size w w' := by
  obtain ⟨dl, sr, hl, hn, hd⟩ := h.out
  rw [← hl]
  refine (dsend_ok room x.f x.t A bA c bc dl x.b w sr hb hsz (by rw [hl]; exact hr) hroom).mono ?_
  rintro e w' ⟨A', c', A2, c2, rfl, so, ob, hbl⟩
  have z := hbl.size
  refine ⟨A', c', by simp [hl], ⟨_, (So.sr encM_length so).1, by simp [hl], fun _ ad e hk => ?_, fun i m y hm hy => ?_⟩, hbl⟩
  · subst e
    have := (so.lt ad.block rfl).1
    have := hbad _ hk
    omega
  · by_cases hi : i < dl.length
    · rw [List.getElem?_append_left hi] at hm
      rw [List.getElem?_append_left (by rw [← hl]; exact hi)] at hy
      obtain ⟨h1, h2, h3⟩ := hd i m y hm hy
      exact ⟨h1, h2, h3.tn (Tn.ofNew (P := fun _ => False) hbl) (fun _ _ _ h => h)⟩
    · rw [List.getElem?_append_right (by omega)] at hm
      rw [List.getElem?_append_right (by rw [← hl]; omega), ← hl] at hy
      have h0 : i - dl.length = 0 := by
        rcases Nat.eq_zero_or_pos (i - dl.length) with h0 | h0
        · exact h0
        · rw [List.getElem?_eq_none (by simp; omega)] at hm; cases hm
      rw [h0] at hm hy
      simp at hm hy
      subst hm hy
      refine ⟨rfl, rfl, rfl, ob.bs.1, fun h0 ad e hk => ?_⟩
      have e' : A2 = some ad := e
      subst e'
      have := (ob.lt ad.block rfl).1
      have := hbad _ hk
      omega
theorem erase_get {α : Type} {l : List α} {i j : Nat} {x : α} (h : (l.eraseIdx i)[j]? = some x) : (j < i ∧ l[j]? = some x) ∨ (i ≤ j ∧ l[j + 1]? = some x) := by
  rw [List.getElem?_eraseIdx] at h
  by_cases hj : j < i
  · rw [if_pos hj] at h; exact .inl ⟨hj, h⟩
  · rw [if_neg hj] at h; exact .inr ⟨by omega, h⟩
theorem map_erase (l : List Rm) : ∀ i, (l.map Rm.b).eraseIdx i = (l.eraseIdx i).map Rm.b := by
  induction l with
  | nil => intro i; rfl
  | cons x l ih => intro i; cases i with
    | zero => rfl
    | succ i => simp [ih]
theorem erase_len2 {α : Type} {l : List α} {i : Nat} (h : i < l.length) : (l.eraseIdx i).length = l.length - 1 := by rw [List.length_eraseIdx]; simp [h]
/-- The document's Without. -/
theorem Dl.without (h : Dl w bad A c ms) (hbad : ∀ k, bad k → k < w.heap.size) {room : Int} {i : Nat} (hi : i < ms.length) (hroom : ms.length ≤ 4096) :
    Calls Try.prog 14 #[docV room A ms.length c, .int .i64 (i : Int)] w fun e w' => ∃ A' c', e = .returned (docV room A' (ms.eraseIdx i).length c') ∧ Dl w' bad A' c' (ms.eraseIdx i) ∧ Below w.heap.size w w' := by
  obtain ⟨dl, sr, hl, hn, hd⟩ := h.out
  have e1 := erase_len2 hi
  have e2 := erase_len2 (l := dl) (i := i) (by omega)
  have e3 : (dl.eraseIdx i).length = (ms.eraseIdx i).length := by omega
  rw [← hl]
  refine (without_any room i A c dl w sr (by omega) (by omega)).mono ?_
  rintro e w' ⟨A', c', rfl, so, hbl⟩
  refine ⟨A', c', by rw [e3], ⟨_, (So.sr encM_length so).1, e3, fun _ ad e hk => ?_, fun j m y hm hy => ?_⟩, hbl⟩
  · subst e
    have := (so.lt ad.block rfl).1
    have := hbad _ hk
    omega
  · have T := Tn.ofNew (P := fun _ => False) hbl
    rcases erase_get hm with ⟨h1, h2⟩ | ⟨h1, h2⟩ <;> rcases erase_get hy with ⟨h3, h4⟩ | ⟨h3, h4⟩ <;> try omega
    · obtain ⟨k1, k2, k3⟩ := hd _ m y h2 h4
      exact ⟨k1, k2, k3.tn T (fun _ _ _ h => h)⟩
    · obtain ⟨k1, k2, k3⟩ := hd _ m y h2 h4
      exact ⟨k1, k2, k3.tn T (fun _ _ _ h => h)⟩
end

/-- The program's post with the messages mp, the document's with md, in blocks apart; the blocks in S are none of theirs. -/
structure PD (w : World) (S : Nat → Prop) (K p ch room : Nat) (mp : List Rm) (A : Option Addr) (c : Nat) (md : List Rm) : Prop where
  out : ∃ v l, Po w K p ch room v l (mp.map Rm.b) ∧ Alike l mp ∧ Dl w (fun k => TP p ch v k ∨ S k) A c md ∧ (∀ k, S k → k < w.heap.size ∧ ¬ TP p ch v k) ∧
    ∀ (i : Nat) (m : Mg) (b : List UInt8), l[i]? = some m → (mp.map Rm.b)[i]? = some b → 0 < b.length → ∀ ad : Addr, m.A = some ad → ¬ S ad.block
theorem own_bad {w : World} {p ch : Nat} {v v' : Value} (o : OwnOr w v v') {k : Nat} (hk : k < w.heap.size) (h : TP p ch v' k) : TP p ch v k := by
  rcases h with e | e | e
  · exact .inl e
  · exact .inr (.inl e)
  · rcases o with e2 | ⟨j, e2, hj⟩
    · exact .inr (.inr (e2.symm.trans e))
    · rw [e2] at e; injection e with e; omega
section
variable {w w' : World} {S : Nat → Prop} {K p ch room : Nat} {mp md : List Rm} {A : Option Addr} {c : Nat}
/-- What is new is safe. -/
theorem PD.safe (h : PD w S K p ch room mp A c md) (hb : Below w.heap.size w w') : PD w' (fun k => S k ∨ (w.heap.size ≤ k ∧ k < w'.heap.size)) K p ch room mp A c md := by
  obtain ⟨v, l, hp, ha, hd, hs, hbd⟩ := h.out
  have z := hb.size
  refine ⟨v, l, hp.below hb, ha, hd.tn (Tn.ofNew (P := fun _ => False) hb) (fun _ _ h => h.elim) (fun k hk e => ?_), fun k hk => ?_, fun i m b hm hB hl ad e hk => ?_⟩
  · rcases e with e | e | e
    · exact .inl e
    · exact .inr e
    · omega
  · rcases hk with hk | hk
    · exact ⟨by have := (hs k hk).1; omega, (hs k hk).2⟩
    · exact ⟨hk.2, fun e => by have := hp.top _ e; omega⟩
  · rcases hk with hk | hk
    · exact hbd i m b hm hB hl ad e hk
    · have := (hp.bd i m b hm hB).lt hl e
      omega
theorem PD.less {S' : Nat → Prop} (h : PD w S K p ch room mp A c md) (hS : ∀ k, S' k → S k) : PD w S' K p ch room mp A c md := by
  obtain ⟨v, l, hp, ha, hd, hs, hbd⟩ := h.out
  exact ⟨v, l, hp, ha, hd.tn (Tn.refl (fun _ => False) _) (fun _ _ h => h.elim) (fun k _ e => e.imp id (hS k)), fun k hk => hs k (hS k hk), fun i m b hm hB hl ad e hk => hbd i m b hm hB hl ad e (hS _ hk)⟩
theorem PD.below (h : PD w S K p ch room mp A c md) (hb : Below w.heap.size w w') : PD w' S K p ch room mp A c md := (h.safe hb).less fun _ h => .inl h
theorem PD.alloc (h : PD w S K p ch room mp A c md) (o : Obj) : PD (w.alloc o) S K p ch room mp A c md := h.below ((Below.refl _ _).alloc (Nat.le_refl _) _)
theorem PD.drew (h : PD w S K p ch room mp A c md) : PD w.drew S K p ch room mp A c md := h.below ((Tn.drew (P := fun _ => False) w).below (Nat.le_refl _) (fun _ _ h => h.elim))
theorem PD.drewN (h : PD w S K p ch room mp A c md) (n : Nat) : PD (w.drewN n) S K p ch room mp A c md := h.below ⟨rfl, rfl, rfl, Nat.le_refl _, fun _ _ => rfl⟩
/-- What turns safe blocks leaves all as it was. -/
theorem PD.turn (h : PD w S K p ch room mp A c md) (t : Tn S w w') : PD w' S K p ch room mp A c md := by
  obtain ⟨v, l, hp, ha, hd, hs, hbd⟩ := h.out
  exact ⟨v, l, hp.tn t (fun k hk hS => (hs k hS).2 hk) hbd, ha, hd.tn t (fun _ _ h => .inr h) (fun _ _ h => h), fun k hk => ⟨by have := (hs k hk).1; have := t.size; omega, (hs k hk).2⟩, hbd⟩
/-- What the post's methods turn is none of the safe blocks. -/
theorem PD.tn {v : Value} {l : List Mg} (hp : Po w K p ch room v l (mp.map Rm.b)) (hs : ∀ k, S k → k < w.heap.size ∧ ¬ TP p ch v k) (t : Tn (TP p ch v) w w') : Tn (fun k => K ≤ k ∧ ¬ S k) w w' :=
  t.mono fun k _ e => ⟨by
    have h1 := hp.kp
    have h2 := hp.kc
    rcases e with e | e | e
    · omega
    · omega
    · exact (hp.so.lt k e).1, fun hk => (hs k hk).2 e⟩
theorem PD.lt (h : PD w S K p ch room mp A c md) : K ≤ w.heap.size ∧ p < w.heap.size := by
  obtain ⟨v, l, hp, _⟩ := h.out
  have := hp.lt
  have := hp.kp
  omega
theorem PD.inRoom (h : PD w S K p ch room mp A c md) : mp.length ≤ room := by
  obtain ⟨v, l, hp, ha, _⟩ := h.out
  rw [← ha.1]; exact hp.le
theorem PD.get (h : PD w S K p ch room mp A c md) {i : Nat} {x : Rm} (hx : md[i]? = some x) : ∃ (ad : Addr) (A' : Option Addr) (c' : Nat), A = some ad ∧ ad.block < w.heap.size ∧ w.cell? (ad.add (i * 3)) = some (.int .i64 x.f) ∧ w.cell? ⟨(ad.add (i * 3)).block, (ad.add (i * 3)).off + 1, none⟩ = some (.int .i64 x.t) ∧
    w.cell? ⟨(ad.add (i * 3)).block, (ad.add (i * 3)).off + 2, none⟩ = some (.slice A' x.b.length c') ∧ Bs w w.heap.size A' c' x.b := by
  obtain ⟨v, l, hp, ha, hd, _⟩ := h.out
  exact hd.get hx
theorem PD.le (h : PD w S K p ch room mp A c md) : md.length ≤ c ∧ c ≤ maxLen := by
  obtain ⟨v, l, hp, ha, hd, _⟩ := h.out
  exact hd.le
theorem PD.badLt {v : Value} {l : List Mg} (hp : Po w K p ch room v l (mp.map Rm.b)) (hs : ∀ k, S k → k < w.heap.size ∧ ¬ TP p ch v k) : ∀ k, (TP p ch v k ∨ S k) → k < w.heap.size := fun k h => h.elim (hp.top k) fun h => (hs k h).1
/-- The document's Send and Without. -/
theorem PD.dsend (h : PD w S K p ch room mp A c md) {rm : Int} (x : Rm) {bA : Option Addr} {bc : Nat} (hb : Bs w w.heap.size bA bc x.b) (hsz : x.b.length ≤ 1048576) (hr : (md.length : Int) < rm) (hroom : rm ≤ 4096) :
    Calls Try.prog 7 #[docV rm A md.length c, .agg #[.int .i64 x.f, .int .i64 x.t, .slice bA x.b.length bc]] w fun e w' => ∃ A' c', e = .returned (.tuple #[.int .i64 0, docV rm A' (md ++ [x]).length c']) ∧ PD w' S K p ch room mp A' c' (md ++ [x]) ∧ Below w.heap.size w w' := by
  obtain ⟨v, l, hp, ha, hd, hs, hbd⟩ := h.out
  refine (hd.send (PD.badLt hp hs) x hb hsz hr hroom).mono ?_
  rintro e w' ⟨A', c', rfl, hd', hbl⟩
  exact ⟨A', c', rfl, ⟨v, l, hp.below hbl, ha, hd', fun k hk => ⟨by have := (hs k hk).1; have := hbl.size; omega, (hs k hk).2⟩, hbd⟩, hbl⟩
theorem PD.without (h : PD w S K p ch room mp A c md) {rm : Int} {i : Nat} (hi : i < md.length) (hroom : md.length ≤ 4096) :
    Calls Try.prog 14 #[docV rm A md.length c, .int .i64 (i : Int)] w fun e w' => ∃ A' c', e = .returned (docV rm A' (md.eraseIdx i).length c') ∧ PD w' S K p ch room mp A' c' (md.eraseIdx i) ∧ Below w.heap.size w w' := by
  obtain ⟨v, l, hp, ha, hd, hs, hbd⟩ := h.out
  refine (hd.without (PD.badLt hp hs) hi hroom).mono ?_
  rintro e w' ⟨A', c', rfl, hd', hbl⟩
  exact ⟨A', c', rfl, ⟨v, l, hp.below hbl, ha, hd', fun k hk => ⟨by have := (hs k hk).1; have := hbl.size; omega, (hs k hk).2⟩, hbd⟩, hbl⟩
theorem PD.after {v v' : Value} (hs : ∀ k, S k → k < w.heap.size ∧ ¬ TP p ch v k) (hd : Dl w (fun k => TP p ch v k ∨ S k) A c md) (t : Tn (TP p ch v) w w') (o : OwnOr w v v') :
    Dl w' (fun k => TP p ch v' k ∨ S k) A c md ∧ ∀ k, S k → k < w'.heap.size ∧ ¬ TP p ch v' k :=
  ⟨hd.tn t (fun _ _ h => .inl h) fun k hk h => h.imp (own_bad o hk) id, fun k hk => ⟨by have := (hs k hk).1; have := t.size; omega, fun h2 => (hs k hk).2 (own_bad o (hs k hk).1 h2)⟩⟩
/-- Send of bytes that lie in safe blocks. -/
theorem PD.send (h : PD w S K p ch room mp A c md) (x : Rm) {bA : Option Addr} {bc : Nat} (hb : Bs w w.heap.size bA bc x.b) (hS : 0 < x.b.length → ∀ ad : Addr, bA = some ad → S ad.block) (hsz : x.b.length ≤ 1048576) (hr : mp.length < room) (hroom : room ≤ 4096) :
    Calls Try.prog 8 #[.pointer (some ⟨p, 0, none⟩), .agg #[.int .i64 x.f, .int .i64 x.t, .slice bA x.b.length bc]] w fun e w' => e = .returned (.int .i64 0) ∧ PD w' S K p ch room (mp ++ [x]) A c md ∧ Tn (fun k => K ≤ k ∧ ¬ S k) w w' := by
  obtain ⟨v, l, hp, ha, hd, hs, hbd⟩ := h.out
  refine (send_ok K p ch room v l _ x.f x.t bA bc x.b w hp ⟨rfl, hb, fun hl ad e hbad => (hs _ (hS hl ad e)).2 hbad⟩ hsz (by rw [ha.1]; exact hr) hroom).mono ?_
  rintro e w' ⟨rfl, v', A', c', hp2, ht, ho, hnw⟩
  obtain ⟨hd2, hs2⟩ := PD.after hs hd ht ho
  refine ⟨rfl, ⟨v', _, by rw [List.map_append]; exact hp2, ha.snoc rfl rfl, hd2, hs2, fun i m b hm hB hl ad e hk => ?_⟩, PD.tn hp hs ht⟩
  have hk' := (hs _ hk).1
  rw [List.map_append] at hB
  by_cases hi : i < l.length
  · rw [List.getElem?_append_left hi] at hm
    rw [List.getElem?_append_left (by rw [hp.len]; exact hi)] at hB
    exact hbd i m b hm hB hl ad e hk
  · rw [List.getElem?_append_right (by omega)] at hm
    rw [List.getElem?_append_right (by rw [hp.len]; omega), hp.len] at hB
    have h0 : i - l.length = 0 := by
      rcases Nat.eq_zero_or_pos (i - l.length) with h0 | h0
      · exact h0
      · rw [List.getElem?_eq_none (by simp; omega)] at hm; cases hm
    rw [h0] at hm hB
    simp at hm hB
    subst hm hB
    have := hnw hl ad e
    omega
/-- Look. -/
theorem PD.look (h : PD w S K p ch room mp A c md) {i : Nat} {x : Rm} (hx : mp[i]? = some x) (hsz : x.b.length ≤ 140737488355328) :
    Calls Try.prog 9 #[.pointer (some ⟨p, 0, none⟩), .int .i64 (i : Int)] w fun e w' => ∃ A' c', e = .returned (.tuple #[.agg #[.int .i64 x.f, .int .i64 x.t, .slice A' x.b.length c'], .int .i64 0]) ∧ Ob w' w.heap.size (.slice A' x.b.length c') x.b ∧ Below w.heap.size w w' := by
  obtain ⟨v, l, hp, ha, _⟩ := h.out
  have hi : i < l.length := by rw [ha.1]; exact (List.getElem?_eq_some_iff.1 hx).1
  obtain ⟨h1, h2⟩ := ha.2 i l[i] x (List.getElem?_eq_getElem hi) hx
  rw [← h1, ← h2]
  exact lookm_ok K p ch room v l _ i l[i] x.b w hp (List.getElem?_eq_getElem hi) (by rw [List.getElem?_map, hx]; rfl) hsz
/-- Take. -/
theorem PD.take (h : PD w S K p ch room mp A c md) {i : Nat} {x : Rm} (hx : mp[i]? = some x) (hsz : x.b.length ≤ 140737488355328) (hroom : room ≤ 4096) :
    Calls Try.prog 10 #[.pointer (some ⟨p, 0, none⟩), .int .i64 (i : Int)] w fun e w' => ∃ A' c', e = .returned (.tuple #[.agg #[.int .i64 x.f, .int .i64 x.t, .slice A' x.b.length c'], .int .i64 0]) ∧ Ob w' w.heap.size (.slice A' x.b.length c') x.b ∧
      PD w' S K p ch room (mp.eraseIdx i) A c md ∧ Tn (fun k => K ≤ k ∧ ¬ S k) w w' := by
  obtain ⟨v, l, hp, ha, hd, hs, hbd⟩ := h.out
  have hi : i < l.length := by rw [ha.1]; exact (List.getElem?_eq_some_iff.1 hx).1
  obtain ⟨h1, h2⟩ := ha.2 i l[i] x (List.getElem?_eq_getElem hi) hx
  rw [← h1, ← h2]
  refine (take_ok K p ch room v l _ i l[i] x.b w hp (List.getElem?_eq_getElem hi) (by rw [List.getElem?_map, hx]; rfl) hsz hroom).mono ?_
  rintro e w' ⟨A', c', v', rfl, ob, hp', ht, ho⟩
  have em : (mp.map Rm.b).eraseIdx i = (mp.eraseIdx i).map Rm.b := map_erase mp i
  obtain ⟨hd2, hs2⟩ := PD.after hs hd ht (.inl ho : OwnOr w v v')
  have e1 := erase_len2 hi
  have e2 := erase_len2 (l := mp) (i := i) (by rw [← ha.1]; exact hi)
  refine ⟨A', c', rfl, ob, ⟨v', l.eraseIdx i, by rw [← em]; exact hp', ⟨by rw [e1, e2, ha.1], fun j m y hm hy => ?_⟩, hd2, hs2, fun j m b hm hB hl ad e => ?_⟩, PD.tn hp hs ht⟩
  · rcases erase_get hm with ⟨h1, h2⟩ | ⟨h1, h2⟩ <;> rcases erase_get hy with ⟨h3, h4⟩ | ⟨h3, h4⟩ <;> try omega
    · exact ha.2 _ m y h2 h4
    · exact ha.2 _ m y h2 h4
  · rw [← em] at hB
    rcases erase_get hm with ⟨h1, h2⟩ | ⟨h1, h2⟩ <;> rcases erase_get hB with ⟨h3, h4⟩ | ⟨h3, h4⟩ <;> try omega
    · exact hbd _ m b h2 h4 hl ad e
    · exact hbd _ m b h2 h4 hl ad e
theorem PD.miss (h : PD w S K p ch room mp A c md) {i : Int} (hi : i < 0 ∨ (mp.length : Int) ≤ i) :
    Calls Try.prog 9 #[.pointer (some ⟨p, 0, none⟩), .int .i64 i] w (fun e w' => e = .returned (noMsg 1) ∧ Below w.heap.size w w') ∧
    Calls Try.prog 10 #[.pointer (some ⟨p, 0, none⟩), .int .i64 i] w (fun e w' => e = .returned (noMsg 1) ∧ Below w.heap.size w w') ∧
    Calls Try.prog 15 #[.pointer (some ⟨p, 0, none⟩), .int .i64 i] w (fun e w' => e = .returned (.int .i64 1) ∧ w = w') := by
  obtain ⟨v, l, hp, ha, _⟩ := h.out
  rw [← ha.1] at hi
  exact ⟨lookm_bad K p ch room v l _ i w hp hi, take_bad K p ch room v l _ i w hp hi, copy_bad K p ch room v l _ i w hp hi⟩
theorem PD.full (h : PD w S K p ch room mp A c md) (hr : room ≤ mp.length) :
    (∀ f t bA bn bc, bn ≤ 1048576 → Calls Try.prog 8 #[.pointer (some ⟨p, 0, none⟩), .agg #[.int .i64 f, .int .i64 t, .slice bA bn bc]] w (fun e w' => e = .returned (.int .i64 4) ∧ Below w.heap.size w w')) ∧
    (∀ i : Nat, i < mp.length → Calls Try.prog 15 #[.pointer (some ⟨p, 0, none⟩), .int .i64 (i : Int)] w (fun e w' => e = .returned (.int .i64 4) ∧ w' = w)) := by
  obtain ⟨v, l, hp, ha, _⟩ := h.out
  rw [← ha.1] at hr
  exact ⟨fun f t bA bn bc hsz => send_full K p ch room v l _ f t bA bn bc w hp hsz hr, fun i hi => copy_full K p ch room v l _ i w hp (by rw [ha.1]; exact hi) hr⟩
/-- Copy. -/
theorem PD.copy (h : PD w S K p ch room mp A c md) {i : Nat} {x : Rm} (hx : mp[i]? = some x) (hr : mp.length < room) (hroom : room ≤ 4096) :
    Calls Try.prog 15 #[.pointer (some ⟨p, 0, none⟩), .int .i64 (i : Int)] w fun e w' => e = .returned (.int .i64 0) ∧ PD w' S K p ch room (mp ++ [x]) A c md ∧ Tn (fun k => K ≤ k ∧ ¬ S k) w w' := by
  obtain ⟨v, l, hp, ha, hd, hs, hbd⟩ := h.out
  have hi : i < l.length := by rw [ha.1]; exact (List.getElem?_eq_some_iff.1 hx).1
  have hxb : (mp.map Rm.b)[i]? = some x.b := by rw [List.getElem?_map, hx]; rfl
  obtain ⟨h1, h2⟩ := ha.2 i l[i] x (List.getElem?_eq_getElem hi) hx
  refine (copy_ok K p ch room v l _ i l[i] x.b w hp (List.getElem?_eq_getElem hi) hxb (by rw [ha.1]; exact hr) hroom).mono ?_
  rintro e w' ⟨rfl, v', hp', ht, ho⟩
  obtain ⟨hd2, hs2⟩ := PD.after hs hd ht ho
  refine ⟨rfl, ⟨v', _, by rw [List.map_append]; exact hp', ha.snoc h1 h2, hd2, hs2, fun j m b hm hB hl ad e hk => ?_⟩, PD.tn hp hs ht⟩
  rw [List.map_append] at hB
  by_cases hj : j < l.length
  · rw [List.getElem?_append_left hj] at hm
    rw [List.getElem?_append_left (by rw [hp.len]; exact hj)] at hB
    exact hbd j m b hm hB hl ad e hk
  · rw [List.getElem?_append_right (by omega)] at hm
    rw [List.getElem?_append_right (by rw [hp.len]; omega), hp.len] at hB
    have h0 : j - l.length = 0 := by
      rcases Nat.eq_zero_or_pos (j - l.length) with h0 | h0
      · exact h0
      · rw [List.getElem?_eq_none (by simp; omega)] at hm; cases hm
    rw [h0] at hm hB
    simp at hm hB
    subst hm hB
    exact hbd i l[i] x.b (List.getElem?_eq_getElem hi) hxb hl ad e hk
end
theorem newPD (n : Nat) (hn : n ≤ 4096) (w : World) : Calls Try.prog 5 #[.int .i64 (n : Int)] w fun e w' => e = .returned (.tuple #[.pointer (some ⟨w.heap.size + 1, 0, none⟩), .int .i64 0]) ∧ PD w' (fun _ => False) w.heap.size (w.heap.size + 1) w.heap.size n [] none 0 [] ∧ Below w.heap.size w w' := by
  refine (new_ok n hn w).mono ?_
  rintro e w' ⟨rfl, hp, hb⟩
  exact ⟨rfl, ⟨_, [], hp, ⟨rfl, fun i m x hm _ => by simp at hm⟩, Dl.nil _ _, fun k h => h.elim, fun i m b hm => by simp at hm⟩, hb⟩

/-- A box of these cells. -/
structure CS (w : World) (b : Nat) (cs : List Value) : Prop where
  at_ : ∀ i v, cs[i]? = some v → w.cell? ⟨b, i, none⟩ = some v
  fr : ∀ o, w.frozen? ⟨b, o, none⟩ = false
  lt : b < w.heap.size
theorem CS.tn {P : Nat → Prop} {w w' : World} {b : Nat} {cs : List Value} (h : CS w b cs) (t : Tn P w w') (hn : ¬ P b) : CS w' b cs :=
  ⟨fun i v hi => t.cell (h.at_ i v hi) hn, fun o => (t.frozen (p := ⟨b, o, none⟩) h.lt hn).trans (h.fr o), Nat.lt_of_lt_of_le h.lt t.size⟩
theorem CS.below {w w' : World} {b : Nat} {cs : List Value} (h : CS w b cs) (hb : Below w.heap.size w w') : CS w' b cs := h.tn (Tn.ofNew (P := fun _ => False) hb) id
end Go.Proofs.Ytejbjnjnabcleaa
