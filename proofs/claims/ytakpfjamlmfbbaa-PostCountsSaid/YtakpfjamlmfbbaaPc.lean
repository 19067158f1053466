/- A post whose messages have no bodies, and a map of counts beside it: what the calls make of them. -/
import Derived.Test.YtakpfjamlmfbbaaKm
import Derived.Test.YtakpfjamlmfbbaaPCopy
import Derived.Test.YtakpfjamlmfbbaaPTakeO
import Derived.Test.YtakpfjamlmfbbaaPAllW
import Derived.Test.YtakpfjamlmfbbaaPAwk
namespace Go.Proofs.Ytakpfjamlmfbbaa
open Go.RowKit Go.Conc

theorem bs_nil (w : World) (K : Nat) : Bs w K none 0 [] := ⟨Nat.le_refl _, by unfold maxLen; omega, fun _ => rfl, fun h => absurd h (by simp)⟩
structure PC (w W : World) (p ch room b n : Nat) (ts : List Int) (f : Int → Int) (h : Int → Bool) : Prop where
  out : ∃ v l B, Po W w.heap.size p ch room v l B ∧ l.map Mg.t = ts ∧ (∀ x ∈ B, x = []) ∧ v.ownBlock ≠ some b
  im : Im W b n f h
  np : b ≠ p
  nc : b ≠ ch
  kb : w.heap.size ≤ b
  B : Below w.heap.size w W
section
variable {w W W' : World} {p ch room b n : Nat} {ts : List Int} {f : Int → Int} {h : Int → Bool}
theorem PC.z (H : PC w W p ch room b n ts f h) : w.heap.size ≤ W.heap.size := H.B.size
theorem PC.inRoom (H : PC w W p ch room b n ts f h) : ts.length ≤ room := by
  obtain ⟨v, l, B, hp, rfl, _⟩ := H.out
  simpa using hp.le
theorem PC.below (H : PC w W p ch room b n ts f h) (hb : Below W.heap.size W W') : PC w W' p ch room b n ts f h := by
  obtain ⟨v, l, B, hp, hl, hB, ho⟩ := H.out
  exact ⟨⟨v, l, B, hp.below hb, hl, hB, ho⟩, H.im.below hb, H.np, H.nc, H.kb, H.B.trans (hb.mono H.z)⟩
/-- What turned the post alone. -/
theorem PC.turn {v v' : Value} {l l' : List Mg} {B B' : List (List UInt8)} {ts' : List Int} (H : PC w W p ch room b n ts f h) (hp : Po W w.heap.size p ch room v l B) (ho : v.ownBlock ≠ some b) (hp' : Po W' w.heap.size p ch room v' l' B') (t : Tn (TP p ch v) W W') (oo : OwnOr W v v')
    (hl' : l'.map Mg.t = ts') (hB' : ∀ x ∈ B', x = []) : PC w W' p ch room b n ts' f h := by
  have hbl := H.im.lt
  have hn : ¬ TP p ch v b := by
    rintro (e | e | e)
    · exact H.np e
    · exact H.nc e
    · exact ho e
  refine ⟨⟨v', l', B', hp', hl', hB', ?_⟩, H.im.tn t hn, H.np, H.nc, H.kb, H.B.trans (t.below H.z fun k _ hk => ?_)⟩
  · rcases oo with e | ⟨j, e, hj⟩
    · rw [e]; exact ho
    · rw [e]; intro e2; injection e2 with e2; omega
  · rcases hk with rfl | rfl | e
    · exact hp.kp
    · exact hp.kc
    · exact (hp.so.lt k e).1
theorem tp_lt {v : Value} {l : List Mg} {B : List (List UInt8)} {W0 : World} {K : Nat} (hp : Po W0 K p ch room v l B) {k : Nat} (hk : TP p ch v k) : k < W0.heap.size := by
  rcases hk with rfl | rfl | e
  · exact hp.lt
  · exact hp.ltc
  · exact (hp.so.lt k e).2
theorem PC.send {W0 : World} (H0 : PC w W0 p ch room b n ts f h) (hb0 : Below W0.heap.size W0 W) (t : Int) (hr : ts.length < room) (hroom : room ≤ 4096) :
    Calls Try.prog 6 #[.pointer (some ⟨p, 0, none⟩), .agg #[.int .i64 0, .int .i64 t, .slice none 0 0]] W fun e W' => e = .returned (.int .i64 0) ∧ PC w W' p ch room b n (ts ++ [t]) f h ∧ Tn (· < W0.heap.size) W W' := by
  obtain ⟨v, l, B, hp0, hl, hB, ho⟩ := H0.out
  have H := H0.below hb0
  have hp := hp0.below hb0
  have hll : l.length = ts.length := by rw [← hl]; simp
  refine (send_ok w.heap.size p ch room v l B 0 t none 0 [] W hp ⟨rfl, bs_nil _ _, fun h => absurd h (by simp)⟩ (by simp) (by omega) hroom).mono ?_
  rintro e W' ⟨rfl, v', A, c, hp', tn, oo, _⟩
  exact ⟨rfl, H.turn hp ho hp' tn oo (by rw [List.map_append, hl]; rfl) (fun x hx => by
    rcases List.mem_append.1 hx with h | h
    · exact hB x h
    · simpa using h), tn.mono fun _ _ hk => tp_lt hp0 hk⟩
theorem PC.sendFull (H : PC w W p ch room b n ts f h) (t : Int) (hr : room ≤ ts.length) :
    Calls Try.prog 6 #[.pointer (some ⟨p, 0, none⟩), .agg #[.int .i64 0, .int .i64 t, .slice none 0 0]] W fun e W' => e = .returned (.int .i64 4) ∧ Below W.heap.size W W' := by
  obtain ⟨v, l, B, hp, hl, hB, ho⟩ := H.out
  have hll : l.length = ts.length := by rw [← hl]; simp
  exact send_full w.heap.size p ch room v l B 0 t none 0 0 W hp (by omega) (by omega)
theorem at_B {l : List Mg} {B : List (List UInt8)} (hlen : B.length = l.length) (hB : ∀ x ∈ B, x = []) {i : Nat} {m : Mg} (hm : l[i]? = some m) : B[i]? = some [] := by
  have hi := (List.getElem?_eq_some_iff.1 hm).1
  rw [List.getElem?_eq_getElem (show i < B.length by omega), hB _ (List.getElem_mem _)]
theorem map_erase8 (l : List Mg) : ∀ i, (l.eraseIdx i).map Mg.t = (l.map Mg.t).eraseIdx i := by
  induction l with
  | nil => intro i; rfl
  | cons x l ih =>
    intro i
    cases i with
    | zero => rfl
    | succ i => simp [ih i]
theorem at_l {l : List Mg} {ts : List Int} (hl : l.map Mg.t = ts) {i : Nat} {t : Int} (ht : ts[i]? = some t) : ∃ m, l[i]? = some m ∧ m.t = t := by
  rw [← hl, List.getElem?_map] at ht
  obtain ⟨m, hm, e⟩ := Option.map_eq_some_iff.1 ht
  exact ⟨m, hm, e⟩
theorem PC.take {W0 : World} (H0 : PC w W0 p ch room b n ts f h) (hb0 : Below W0.heap.size W0 W) {i : Nat} {t : Int} (ht : ts[i]? = some t) (hroom : room ≤ 4096) :
    Calls Try.prog 7 #[.pointer (some ⟨p, 0, none⟩), .int .i64 (i : Int)] W fun e W' => (∃ (fr : Int) (A : Option Addr) (c : Nat), e = .returned (.tuple #[.agg #[.int .i64 fr, .int .i64 t, .slice A 0 c], .int .i64 0])) ∧ PC w W' p ch room b n (ts.eraseIdx i) f h ∧ Tn (· < W0.heap.size) W W' := by
  obtain ⟨v, l, B, hp0, hl, hB, ho⟩ := H0.out
  have H := H0.below hb0
  have hp := hp0.below hb0
  obtain ⟨m, hm, rfl⟩ := at_l hl ht
  refine (take_ok w.heap.size p ch room v l B i m [] W hp hm (at_B hp.len hB hm) (by simp) hroom).mono ?_
  rintro e W' ⟨A, c, v', rfl, _, hp', tn, oo⟩
  exact ⟨⟨m.f, A, c, rfl⟩, H.turn hp ho hp' tn (.inl oo) (by rw [map_erase8, hl]) (fun x hx => hB x (List.mem_of_mem_eraseIdx hx)), tn.mono fun _ _ hk => tp_lt hp0 hk⟩
theorem PC.look (H : PC w W p ch room b n ts f h) {i : Nat} {t : Int} (ht : ts[i]? = some t) :
    Calls Try.prog 8 #[.pointer (some ⟨p, 0, none⟩), .int .i64 (i : Int)] W fun e W' => (∃ (fr : Int) (A : Option Addr) (c : Nat), e = .returned (.tuple #[.agg #[.int .i64 fr, .int .i64 t, .slice A 0 c], .int .i64 0])) ∧ Below W.heap.size W W' := by
  obtain ⟨v, l, B, hp, hl, hB, ho⟩ := H.out
  obtain ⟨m, hm, rfl⟩ := at_l hl ht
  refine (lookm_ok w.heap.size p ch room v l B i m [] W hp hm (at_B hp.len hB hm) (by simp)).mono ?_
  rintro e W' ⟨A, c, rfl, _, hb⟩
  exact ⟨⟨m.f, A, c, rfl⟩, hb⟩
theorem PC.lookBad (H : PC w W p ch room b n ts f h) {i : Int} (hi : i < 0 ∨ (ts.length : Int) ≤ i) :
    Calls Try.prog 8 #[.pointer (some ⟨p, 0, none⟩), .int .i64 i] W fun e W' => e = .returned (.tuple #[.agg #[.int .i64 0, .int .i64 0, .slice none 0 0], .int .i64 1]) ∧ Below W.heap.size W W' := by
  obtain ⟨v, l, B, hp, hl, hB, ho⟩ := H.out
  have hll : l.length = ts.length := by rw [← hl]; simp
  exact lookm_bad w.heap.size p ch room v l B i W hp (by omega)
theorem PC.takeBad (H : PC w W p ch room b n ts f h) {i : Int} (hi : i < 0 ∨ (ts.length : Int) ≤ i) :
    Calls Try.prog 7 #[.pointer (some ⟨p, 0, none⟩), .int .i64 i] W fun e W' => e = .returned (.tuple #[.agg #[.int .i64 0, .int .i64 0, .slice none 0 0], .int .i64 1]) ∧ Below W.heap.size W W' := by
  obtain ⟨v, l, B, hp, hl, hB, ho⟩ := H.out
  have hll : l.length = ts.length := by rw [← hl]; simp
  exact take_bad w.heap.size p ch room v l B i W hp (by omega)
theorem PC.copy {W0 : World} (H0 : PC w W0 p ch room b n ts f h) (hb0 : Below W0.heap.size W0 W) {i : Nat} {t : Int} (ht : ts[i]? = some t) (hr : ts.length < room) (hroom : room ≤ 4096) :
    Calls Try.prog 9 #[.pointer (some ⟨p, 0, none⟩), .int .i64 (i : Int)] W fun e W' => e = .returned (.int .i64 0) ∧ PC w W' p ch room b n (ts ++ [t]) f h ∧ Tn (· < W0.heap.size) W W' := by
  obtain ⟨v, l, B, hp0, hl, hB, ho⟩ := H0.out
  have H := H0.below hb0
  have hp := hp0.below hb0
  have hll : l.length = ts.length := by rw [← hl]; simp
  obtain ⟨m, hm, rfl⟩ := at_l hl ht
  refine (copy_ok w.heap.size p ch room v l B i m [] W hp hm (at_B hp.len hB hm) (by omega) hroom).mono ?_
  rintro e W' ⟨rfl, v', hp', tn, oo⟩
  exact ⟨rfl, H.turn hp ho hp' tn oo (by rw [List.map_append, hl]; rfl) (fun x hx => by
    rcases List.mem_append.1 hx with h | h
    · exact hB x h
    · simpa using h), tn.mono fun _ _ hk => tp_lt hp0 hk⟩
theorem PC.copyFull (H : PC w W p ch room b n ts f h) {i : Nat} (hi : i < ts.length) (hr : room ≤ ts.length) :
    Calls Try.prog 9 #[.pointer (some ⟨p, 0, none⟩), .int .i64 (i : Int)] W fun e W' => e = .returned (.int .i64 4) ∧ W' = W := by
  obtain ⟨v, l, B, hp, hl, hB, ho⟩ := H.out
  have hll : l.length = ts.length := by rw [← hl]; simp
  exact copy_full w.heap.size p ch room v l B i W hp (by omega) (by omega)
theorem PC.len (H : PC w W p ch room b n ts f h) : Calls Try.prog 11 #[.pointer (some ⟨p, 0, none⟩)] W fun e W' => e = .returned (.int .i64 (ts.length : Int)) ∧ W = W' := by
  obtain ⟨v, l, B, hp, hl, hB, ho⟩ := H.out
  have hll : l.length = ts.length := by rw [← hl]; simp
  rw [← hll]
  exact len_any w.heap.size p ch room v l B W hp
/-- All messages, handed out: the numbers of whom they are for. -/
theorem PC.all (H : PC w W p ch room b n ts f h) (hroom : room ≤ 4096) : Calls Try.prog 10 #[.pointer (some ⟨p, 0, none⟩)] W fun e W' => ∃ A c ms, e = .returned (.slice A ts.length c) ∧ So encM 3 W' W.heap.size 36 (.slice A ts.length c) ms ∧ ms.map Mg.t = ts ∧ Below W.heap.size W W' := by
  obtain ⟨v, l, B, hp, hl, hB, ho⟩ := H.out
  have hll : l.length = ts.length := by rw [← hl]; simp
  refine (all_any w.heap.size p ch room v l B W hp (fun x hx => by rw [hB x hx]; simp) hroom).mono ?_
  rintro e W' ⟨A, c, ms, rfl, hr, hb⟩
  rw [hll] at hr
  refine ⟨A, c, ms, by rw [hll], hr.so, ?_, hb⟩
  rw [← hl]
  apply List.ext_getElem?
  intro i
  rw [List.getElem?_map, List.getElem?_map]
  by_cases hi : i < l.length
  · have him : i < ms.length := by have := hr.len; omega
    have h1 : ms[i]? = some (ms[i]'him) := List.getElem?_eq_getElem him
    have h2 : l[i]? = some l[i] := List.getElem?_eq_getElem hi
    have h3 := hr.new i _ _ [] (by omega) h1 h2 (at_B hp.len hB h2)
    rw [h1, h2, Option.map_some, Option.map_some, h3.2.1]
  · rw [List.getElem?_eq_none (by have := hr.len; omega), List.getElem?_eq_none (by omega)]
/-- The map is written. -/
theorem PC.put {n' : Nat} {f' : Int → Int} {h' : Int → Bool} (H : PC w W p ch room b n ts f h) (him : Im W' b n' f' h') (t : Tn (· = b) W W') : PC w W' p ch room b n' ts f' h' := by
  obtain ⟨v, l, B, hp, hl, hB, ho⟩ := H.out
  refine ⟨⟨v, l, B, hp.tn t (fun k hk e => ?_) (fun i m x hm hx h0 => ?_), hl, hB, ho⟩, him, H.np, H.nc, H.kb, H.B.trans (t.below H.z fun k _ e => e ▸ H.kb)⟩
  · subst e
    rcases hk with e | e | e
    · exact H.np e
    · exact H.nc e
    · exact ho e
  · rw [hB x (List.mem_of_getElem? hx)] at h0
    simp at h0
end
end Go.Proofs.Ytakpfjamlmfbbaa
