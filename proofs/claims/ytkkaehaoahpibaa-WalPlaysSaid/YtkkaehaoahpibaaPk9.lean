/- A law for a statement whose order is open, with two operations that turn memory: the state of the world is told by which of the two have come up; every value is known ahead. -/
import Derived.Test.YtkkaehaoahpibaaPk0
import Derived.Laws.BytesArg
import Derived.Test.YtkkaehaoahpibaaPk7
import Derived.Lib.SlBytesConst
import Derived.Test.YtkkaehaoahpibaaPk8
import Derived.Test.YtkkaehaoahpibaaPk2
import Derived.Test.YtkkaehaoahpibaaPk3
namespace Go.Proofs.Ytkkaehaoahpibaa
open Go.RowKit

def strB (l : List UInt8) : ByteArray := ⟨l.toArray⟩
theorem strB_toList (l : List UInt8) : (strB l).data.toList = l := rfl
theorem strB_size (l : List UInt8) : (strB l).size = l.length := by simp [strB, ByteArray.size]

theorem bs_str {w : World} {K cap n : Nat} {A : Option Addr} {l : List UInt8} (h : Bs w K A cap l) (hn : l.length = n) : (convert 32 9 (.slice A n cap)).run Try.prog w = .ok (.string (strB l)) w := by
  subst hn
  by_cases hl : l = []
  · subst hl
    rcases A with _ | ad
    · exact run_convert_bytes_nil (P := Try.prog) w 32 5 Try.underlying32 Try.underlying5 0 cap 9 Try.underlying9
    · show (convert 32 9 (.slice (some ad) 0 cap)).run Try.prog w = _
      rw [run_convert_bytes_string w 32 9 5 _ _ _ Try.underlying32 Try.underlying5 Try.underlying9, run_bytesToString w ad 0 cap [] (by simpa using run_loadCells_list (P := Try.prog) w ad [] (fun j v hj => by simp at hj))]
      rfl
  · obtain ⟨ad, rfl, _, hc⟩ := h.at_ (List.length_pos_iff.2 hl)
    have hld : (loadCells ad l.length).run Try.prog w = .ok ((l.map fun c => (c.toNat : Int)).map (Value.int .u8)).toArray w := by
      have := run_loadCells_list (P := Try.prog) w ad (l.map bv) (fun j v hj => by
        simp only [List.getElem?_map, Option.map_eq_some_iff] at hj
        obtain ⟨c, hc', rfl⟩ := hj
        exact hc j c hc')
      rw [List.length_map] at this
      rw [List.map_map]
      exact this
    rw [run_convert_bytes_string w 32 9 5 _ _ _ Try.underlying32 Try.underlying5 Try.underlying9, run_bytesToString w ad l.length cap _ hld, foldl_push_bytes, List.map_map]
    have e : (l.map ((fun n : Int => UInt8.ofNat n.toNat) ∘ fun c : UInt8 => (c.toNat : Int))) = l := by
      rw [show ((fun n : Int => UInt8.ofNat n.toNat) ∘ fun c : UInt8 => (c.toNat : Int)) = id by funext c; simp, List.map_id]
    rw [e]
    simp [strB, ByteArray.empty, ByteArray.emptyWithCapacity]
    rfl
end Go.Proofs.Ytkkaehaoahpibaa
namespace Go.Proofs.Ytkkaehaoahpibaa
open Go.RowKit Go.Maps Go.BigFrame

theorem DD.lt {w : World} {B : Nat → Prop} {d : Nat} {a : Ad} (h : DD w B d a) : d < w.heap.size ∧ B d := by
  obtain ⟨K, mb, M, D, _, hb⟩ := h.ex
  exact ⟨D.lt, hb d (.inl rfl)⟩
theorem Tn.bel {K : Nat} {B : Nat → Prop} {w w1 w2 : World} (t : Tn B w1 w2) (hb : Below K w w1) (hB : ∀ k, B k → K ≤ k) (hK : K ≤ w.heap.size) : Below K w w2 := hb.trans (t.below (Nat.le_trans hK hb.size) fun k _ h => hB k h)
theorem up {B B' : Nat → Prop} {K n : Nat} (h : ∀ k, B' k → B k ∨ n ≤ k) (hB : ∀ k, B k → K ≤ k) (hn : K ≤ n) : ∀ k, B' k → K ≤ k := fun k hk => (h k hk).elim (hB k) fun e => Nat.le_trans hn e
def Ok0 (w : World) (e : Ending) (w' : World) : Prop := e = .returned (.bool true) ∧ Below w.heap.size w w'
end Go.Proofs.Ytkkaehaoahpibaa
namespace Go.Proofs.Ytkkaehaoahpibaa
open Go.RowKit

/-- Behind the world W, in which the one had the blocks B and the other the blocks C. -/
structure JJ (W : World) (B C : Nat → Prop) (d m : Nat) (a b : Ad) (wx : World) : Prop where
  ex : ∃ B' C', DD wx B' d a ∧ RD wx C' m b ∧ (∀ k, B' k → B k ∨ W.heap.size ≤ k) ∧ (∀ k, C' k → C k ∨ W.heap.size ≤ k) ∧ ∀ k, B' k → ¬ C' k
  tn : Tn (fun k => B k ∨ C k) W wx
section
variable {W wx wy : World} {B C P : Nat → Prop} {d m : Nat} {a a' b b' : Ad} {r : Int} {f : Nat} {args : Array Value}
theorem JJ.start (h : DD W B d a) (k : RD W C m b) (hd : ∀ k, B k → ¬ C k) : JJ W B C d m a b W := ⟨⟨B, C, h, k, fun _ h => .inl h, fun _ h => .inl h, hd⟩, Tn.refl _ _⟩
theorem JJ.below (J : JJ W B C d m a b wx) (hb : Below wx.heap.size wx wy) : JJ W B C d m a b wy := by
  obtain ⟨B', C', D, R, h1, h2, h3⟩ := J.ex
  exact ⟨⟨B', C', D.below hb, R.below hb, h1, h2, h3⟩, J.tn.then (Tn.ofNew hb)⟩
theorem JJ.prog (J : JJ W B C d m a b wx) (H : ∀ B', DD wx B' d a → (∀ k, B' k → B k ∨ W.heap.size ≤ k) → Calls Try.prog f args wx (Dn wx B' d r a')) : Calls Try.prog f args wx fun e w' => e = .returned (.int .i64 r) ∧ JJ W B C d m a' b w' := by
  obtain ⟨B', C', D, R, h1, h2, h3⟩ := J.ex
  refine (H B' D h1).mono ?_
  rintro e w' ⟨rfl, B2, D2, t, hB⟩
  have hs := J.tn.size
  refine ⟨rfl, ⟨B2, C', D2, R.tn t fun k hc hb => h3 k hb hc, fun k hk => (hB k hk).elim (h1 k) fun h => .inr (by omega), h2, fun k hk hc => (hB k hk).elim (fun h => h3 k h hc) fun h => ?_⟩, J.tn.thenQ t fun k hk hb => (h1 k hb).elim .inl fun h => absurd hk (by omega)⟩
  have := R.bt k hc
  omega
theorem JJ.doc {Q : Ending → Prop} (J : JJ W B C d m a b wx) (H : ∀ C', RD wx C' m b → (∀ k, C' k → C k ∨ W.heap.size ≤ k) → Calls Try.prog f args wx fun e w' => Q e ∧ Rn wx C' m r b' (.returned (.int .i64 r)) w') : Calls Try.prog f args wx fun e w' => Q e ∧ JJ W B C d m a b' w' := by
  obtain ⟨B', C', D, R, h1, h2, h3⟩ := J.ex
  refine (H C' R h2).mono ?_
  rintro e w' ⟨hQ, _, C2, R2, t, hC⟩
  have hs := J.tn.size
  refine ⟨hQ, ⟨B', C2, D.tn t fun k hb hc => h3 k hb hc, R2, h1, fun k hk => (hC k hk).elim (h2 k) fun h => .inr (by omega), fun k hk hc => (hC k hc).elim (fun h => h3 k hk h) fun h => ?_⟩, J.tn.thenQ t fun k hk hb => (h2 k hb).elim .inr fun h => absurd hk (by omega)⟩
  have := D.bt k hk
  omega
theorem DD.lim (h : DD W B d a) : Lim a := by
  obtain ⟨K, mb, M, D, e, _⟩ := h.ex
  refine ⟨h.le, h.rm, h.ln, h.f1, h.f2, ?_⟩
  rw [← e, List.pairwise_map]
  exact D.ri
end
end Go.Proofs.Ytkkaehaoahpibaa
namespace Go.Proofs.Ytkkaehaoahpibaa
open Go.RowKit Go.BigFrame

/-- A value as it is, or a slice of the call's own that holds these bytes, or a segment that has such a slice. -/
def Hs (w : World) : Value ⊕ (Option Int × List UInt8) → Value → World → Prop
  | .inl x, v, _ => v = x
  | .inr (none, l), v, wx => ∃ A c, v = .slice A l.length c ∧ Ob wx w.heap.size (.slice A l.length c) l
  | .inr (some n, l), v, wx => ∃ A c, v = .agg #[.int .i64 n, .slice A l.length c, .slice none 0 0, .bool true] ∧ Ob wx w.heap.size (.slice A l.length c) l
theorem Hs.mono {w : World} {p : Value ⊕ (Option Int × List UInt8)} {v : Value} {wx w1 : World} (h : Hs w p v wx) (hb : Below wx.heap.size wx w1) : Hs w p v w1 := by
  rcases p with x | ⟨_ | n, l⟩
  · exact h
  · obtain ⟨A, c, e, ho⟩ := h; exact ⟨A, c, e, ho.below hb⟩
  · obtain ⟨A, c, e, ho⟩ := h; exact ⟨A, c, e, ho.below hb⟩
section
variable {B : Nat → Prop} {w : World} {m : Nat} {a a' : Ad} {n r : Int}
set_option maxRecDepth 100000 in
set_option maxHeartbeats 3200000 in
theorem rsync_RD (h : RD w B m a) (hl : Lim a) (hr : opD syncA a n = (r, a')) :
    Calls Try.prog 15 #[rP m, .int .i64 n] w (Rn w B m r a') := by
  obtain ⟨A, cap, qs, D, e, hB⟩ := h.ex
  clear h
  obtain ⟨room, fuse, down, L⟩ := a
  obtain ⟨hle, hrm, hln, hf1, hf2, hri⟩ := hl
  simp only at D e hle hrm hln hf1 hf2 hri
  subst e
  have hlen : qs.length ≤ 1024 := by simpa using hln
  unfold opD at hr
  simp only at hr
  cases down with
  | true =>
    rw [if_pos rfl] at hr
    cases hr
    have HR := Lib.hid (RD.turned (a' := ⟨room, fuse, true, qs.map Rq.x⟩) hB D rfl (Tn.refl _ _) (fun _ h => .inl h) 5)
    have c3 := D.c3
    clear D hB hle hrm hln hf1 hf2 hri hlen
    go_enter Try.func15, Try.ntmps15
    go_wp2
    go_ret
    exact HR.out
  | false =>
    rw [if_neg (by decide)] at hr
    have c3 := D.c3
    have HF := Lib.hid (rfind_any D (by omega) n)
    rcases find_cases (qs.map Rq.x) n with ⟨hh, hf⟩ | ⟨i, x, hx, hxn, hf, hh⟩
    · rw [hh, if_pos rfl] at hr
      cases hr
      rw [hf] at HF
      have HR := Lib.hid (RD.turned (a' := ⟨room, fuse, false, qs.map Rq.x⟩) hB D rfl (Tn.refl _ _) (fun _ h => .inl h) 6)
      clear D hB hle hrm hln hf1 hf2 hri hlen hf hh
      go_enter Try.func15, Try.ntmps15
      go_wp2_with fail
      go_at_call 40
      refine HF.out.mono ?_
      rintro _ _ ⟨rfl, rfl⟩
      go_wp2_with fail
      go_ret
      exact HR.out
    · rw [hh, if_neg (by decide)] at hr
      rw [hf] at HF
      have hi0 : (0 : Int) ≤ (i : Int) := Int.natCast_nonneg i
      by_cases hz : fuse = 0
      · subst hz
        rw [if_pos rfl] at hr
        cases hr
        have HP := Lib.hid (rpow_no D)
        have HB := Lib.hid hB
        have HD := Lib.hid D
        clear D hB hle hrm hln hf1 hf2 hri hf hh hx hlen
        go_enter Try.func15, Try.ntmps15
        go_wp2_with fail
        go_at_call 40
        refine HF.out.mono ?_
        rintro _ _ ⟨rfl, rfl⟩
        go_wp2_with fail
        go_at_call 41
        refine HP.out.mono ?_
        rintro _ w1 ⟨rfl, D1, t1⟩
        have HR := Lib.hid (RD.turned (a' := ⟨room, 0, true, qs.map Rq.x⟩) HB.out D1 rfl (t1.mono fun _ _ h => .inl h) (fun _ h => .inl h) 5)
        clear D1 t1
        go_wp2_with fail
        go_ret
        exact HR.out
      · rw [if_neg hz] at hr
        cases hr
        have HP := Lib.hid (rpow_yes D hz hf1 hf2)
        obtain ⟨q, hiq, hqx⟩ : ∃ q, qs[i]? = some q ∧ q.x = x := by
          rw [List.getElem?_map] at hx
          cases hq : qs[i]? with
          | none => rw [hq] at hx; cases hx
          | some q => rw [hq] at hx; exact ⟨q, rfl, by simpa using hx⟩
        subst hqx
        have hsum : q.x.b.length ≤ 67108864 := by
          have h1 := sum_next (qs := qs) (k := i) (List.getElem?_eq_some_iff.1 hiq).1
          have h2 := sum_take (qs := qs) (i + 1)
          rw [(List.getElem?_eq_some_iff.1 hiq).2] at h1
          omega
        have HE := Lib.hid (sync_at hri hx hxn)
        have HB := Lib.hid hB
        have hil : i < qs.length := (List.getElem?_eq_some_iff.1 hiq).1
        clear hle hrm hln hf1 hf2 hri hf hh hx hB D
        go_enter Try.func15, Try.ntmps15
        go_wp2_with fail
        go_at_call 40
        refine HF.out.mono ?_
        rintro _ _ ⟨rfl, rfl⟩
        go_wp2_with fail
        go_at_call 41
        refine HP.out.mono ?_
        rintro _ w1 ⟨rfl, D1, t1⟩
        have HD1 := Lib.hid D1
        have HT1 := Lib.hid t1
        clear t1
        obtain ⟨g, rfl⟩ := D1.addr (by omega)
        have hle := (D1.so.sr encQ_len).1.le
        have hmx := (D1.so.sr encQ_len).1.max
        unfold maxLen at hmx
        have hq := D1.gq q (List.mem_of_getElem? hiq)
        have hl1 : (q.x.b.take q.x.l).length = q.x.l := by rw [List.length_take]; have := hq.le; omega
        have hl2 : (q.x.b.drop q.x.l).length = q.x.b.length - q.x.l := List.length_drop
        have HJ := Lib.hid (fun (W : World) (hW : Below w1.heap.size w1 W) => by
          have := rjoin_any (w := W) ((hq.b1.below hW)) ((hq.b2.below hW)) hW.size (by rw [hl1]; have := hq.le; omega) (by rw [hl2]; omega) (take_drop_b q)
          rw [hl1, hl2] at this
          exact this)
        have i1 : (i : Int) < qs.length := by omega
        clear D1 hq hl1 hl2
        go_wp2_with fail
        apply region_VS (Hs w1) (Gd w1 m room (fz fuse) false (some ⟨g, 0, none⟩) cap qs) (Es w1 m room (fz fuse) false g cap qs i ⟨n, q.x.b, q.x.b.length, true⟩) 25 [.inl (.pointer (some ⟨m, 0, none⟩)), .inl (.pointer (some ⟨m, 0, none⟩)), .inl (.pointer (some ⟨m, 1, none⟩)), .inl (.slice (some ⟨g, 0, none⟩) qs.length cap), .inl (.int .i64 (i : Int)), .inl (.int .i64 n), .inl (.pointer (some ⟨m, 0, none⟩)), .inl (.pointer (some ⟨m, 0, none⟩)), .inl (.pointer (some ⟨m, 1, none⟩)), .inl (.slice (some ⟨g, 0, none⟩) qs.length cap), .inl (.int .i64 (i : Int)), .inl (.pointer (some ⟨g, i * 4, none⟩)), .inl (.pointer (some ⟨g, i * 4 + 1, none⟩)), .inl (.slice q.A q.x.l q.c), .inl (.pointer (some ⟨m, 0, none⟩)), .inl (.pointer (some ⟨m, 0, none⟩)), .inl (.pointer (some ⟨m, 1, none⟩)), .inl (.slice (some ⟨g, 0, none⟩) qs.length cap), .inl (.int .i64 (i : Int)), .inl (.pointer (some ⟨g, i * 4, none⟩)), .inl (.pointer (some ⟨g, i * 4 + 2, none⟩)), .inl (.slice q.B (q.x.b.length - q.x.l) q.d), .inr (none, q.x.b), .inr (some n, q.x.b), .inl (.pointer (some ⟨g, i * 4, none⟩)), .inl undef] (.inl undef)
        case mono => exact fun p v w0 w9 h hb => Hs.mono h hb
        case hl => kernel_rfl
        case hm => kernel_rfl
        case hf => kernel_rfl
        case hQ => exact (by intro c x y w e h; exact And.intro (e.symm.trans (And.left h)) (And.right h))
        case hF => intro vs; simp only [putAll, Act.put, List.setIfInBounds_toArray, List.set_cons_zero, List.set_cons_succ, Nat.reduceAdd]; rfl
        case h0 => exact ⟨HD1.out.below ⟨rfl, rfl, rfl, Nat.le_refl _, fun _ _ => rfl⟩, ⟨rfl, rfl, rfl, Nat.le_refl _, fun _ _ => rfl⟩⟩
        case hstep =>
          repeat' (first | exact AllOps.nil | apply AllOps.cons)
          · intro vs wx hG hd K hK
            replace hK : ∀ (uu : Value) (w' : World), Below wx.heap.size wx w' → ((Gd w1 m room (fz fuse) false (some ⟨g, 0, none⟩) cap qs)) w' → (Hs w1) (.inl (.pointer (some ⟨m, 0, none⟩))) uu w' → K _ w' := hK
            simp only [Act.put, List.setIfInBounds_toArray, List.set_cons_zero, List.set_cons_succ] at hK ⊢
            have HK := Lib.hid hK
            have HG := Lib.hid hG
            clear hK hd
            clear hG
            go_simp
            exact HK.out _ _ (Below.refl _ _) HG.out rfl
          · intro vs wx hG hd K hK
            have e0 : vs 0 = .pointer (some ⟨m, 0, none⟩) := hd.get (j := 0) (by simp [depsOf, Region.binds])
            replace hK : ∀ (uu : Value) (w' : World), Below wx.heap.size wx w' → ((Gd w1 m room (fz fuse) false (some ⟨g, 0, none⟩) cap qs)) w' → (Hs w1) (.inl (.pointer (some ⟨m, 0, none⟩))) uu w' → K _ w' := hK
            simp only [Act.put, List.setIfInBounds_toArray, List.set_cons_zero, List.set_cons_succ, e0] at hK ⊢
            have HK := Lib.hid hK
            have HG := Lib.hid hG
            clear hK hd e0
            clear hG
            go_simp
            exact HK.out _ _ (Below.refl _ _) HG.out rfl
          · intro vs wx hG hd K hK
            have e1 : vs 1 = .pointer (some ⟨m, 0, none⟩) := hd.get (j := 1) (by simp [depsOf, Region.binds])
            replace hK : ∀ (uu : Value) (w' : World), Below wx.heap.size wx w' → ((Gd w1 m room (fz fuse) false (some ⟨g, 0, none⟩) cap qs)) w' → (Hs w1) (.inl (.pointer (some ⟨m, 1, none⟩))) uu w' → K _ w' := hK
            simp only [Act.put, List.setIfInBounds_toArray, List.set_cons_zero, List.set_cons_succ, e1] at hK ⊢
            have HK := Lib.hid hK
            have HG := Lib.hid hG
            clear hK hd e1
            clear hG
            go_simp
            exact HK.out _ _ (Below.refl _ _) HG.out rfl
          · intro vs wx hG hd K hK
            have e2 : vs 2 = .pointer (some ⟨m, 1, none⟩) := hd.get (j := 2) (by simp [depsOf, Region.binds])
            replace hK : ∀ (uu : Value) (w' : World), Below wx.heap.size wx w' → ((Gd w1 m room (fz fuse) false (some ⟨g, 0, none⟩) cap qs)) w' → (Hs w1) (.inl (.slice (some ⟨g, 0, none⟩) qs.length cap)) uu w' → K _ w' := hK
            simp only [Act.put, List.setIfInBounds_toArray, List.set_cons_zero, List.set_cons_succ, e2] at hK ⊢
            have HK := Lib.hid hK
            have HG := Lib.hid hG
            clear hK hd e2
            have gc1 := HG.out.c1
            obtain ⟨gs, _⟩ := HG.out.slot hiq
            have gs1 := gs 1 _ rfl
            have gs2 := gs 2 _ rfl
            clear hG gs
            go_simp
            exact HK.out _ _ (Below.refl _ _) HG.out rfl
          · intro vs wx hG hd K hK
            replace hK : ∀ (uu : Value) (w' : World), Below wx.heap.size wx w' → ((Gd w1 m room (fz fuse) false (some ⟨g, 0, none⟩) cap qs)) w' → (Hs w1) (.inl (.int .i64 (i : Int))) uu w' → K _ w' := hK
            simp only [Act.put, List.setIfInBounds_toArray, List.set_cons_zero, List.set_cons_succ] at hK ⊢
            have HK := Lib.hid hK
            have HG := Lib.hid hG
            clear hK hd
            clear hG
            go_simp
            exact HK.out _ _ (Below.refl _ _) HG.out rfl
          · intro vs wx hG hd K hK
            replace hK : ∀ (uu : Value) (w' : World), Below wx.heap.size wx w' → ((Gd w1 m room (fz fuse) false (some ⟨g, 0, none⟩) cap qs)) w' → (Hs w1) (.inl (.int .i64 n)) uu w' → K _ w' := hK
            simp only [Act.put, List.setIfInBounds_toArray, List.set_cons_zero, List.set_cons_succ] at hK ⊢
            have HK := Lib.hid hK
            have HG := Lib.hid hG
            clear hK hd
            clear hG
            go_simp
            exact HK.out _ _ (Below.refl _ _) HG.out rfl
          · intro vs wx hG hd K hK
            replace hK : ∀ (uu : Value) (w' : World), Below wx.heap.size wx w' → ((Gd w1 m room (fz fuse) false (some ⟨g, 0, none⟩) cap qs)) w' → (Hs w1) (.inl (.pointer (some ⟨m, 0, none⟩))) uu w' → K _ w' := hK
            simp only [Act.put, List.setIfInBounds_toArray, List.set_cons_zero, List.set_cons_succ] at hK ⊢
            have HK := Lib.hid hK
            have HG := Lib.hid hG
            clear hK hd
            clear hG
            go_simp
            exact HK.out _ _ (Below.refl _ _) HG.out rfl
          · intro vs wx hG hd K hK
            have e6 : vs 6 = .pointer (some ⟨m, 0, none⟩) := hd.get (j := 6) (by simp [depsOf, Region.binds])
            replace hK : ∀ (uu : Value) (w' : World), Below wx.heap.size wx w' → ((Gd w1 m room (fz fuse) false (some ⟨g, 0, none⟩) cap qs)) w' → (Hs w1) (.inl (.pointer (some ⟨m, 0, none⟩))) uu w' → K _ w' := hK
            simp only [Act.put, List.setIfInBounds_toArray, List.set_cons_zero, List.set_cons_succ, e6] at hK ⊢
            have HK := Lib.hid hK
            have HG := Lib.hid hG
            clear hK hd e6
            clear hG
            go_simp
            exact HK.out _ _ (Below.refl _ _) HG.out rfl
          · intro vs wx hG hd K hK
            have e7 : vs 7 = .pointer (some ⟨m, 0, none⟩) := hd.get (j := 7) (by simp [depsOf, Region.binds])
            replace hK : ∀ (uu : Value) (w' : World), Below wx.heap.size wx w' → ((Gd w1 m room (fz fuse) false (some ⟨g, 0, none⟩) cap qs)) w' → (Hs w1) (.inl (.pointer (some ⟨m, 1, none⟩))) uu w' → K _ w' := hK
            simp only [Act.put, List.setIfInBounds_toArray, List.set_cons_zero, List.set_cons_succ, e7] at hK ⊢
            have HK := Lib.hid hK
            have HG := Lib.hid hG
            clear hK hd e7
            clear hG
            go_simp
            exact HK.out _ _ (Below.refl _ _) HG.out rfl
          · intro vs wx hG hd K hK
            have e8 : vs 8 = .pointer (some ⟨m, 1, none⟩) := hd.get (j := 8) (by simp [depsOf, Region.binds])
            replace hK : ∀ (uu : Value) (w' : World), Below wx.heap.size wx w' → ((Gd w1 m room (fz fuse) false (some ⟨g, 0, none⟩) cap qs)) w' → (Hs w1) (.inl (.slice (some ⟨g, 0, none⟩) qs.length cap)) uu w' → K _ w' := hK
            simp only [Act.put, List.setIfInBounds_toArray, List.set_cons_zero, List.set_cons_succ, e8] at hK ⊢
            have HK := Lib.hid hK
            have HG := Lib.hid hG
            clear hK hd e8
            have gc1 := HG.out.c1
            obtain ⟨gs, _⟩ := HG.out.slot hiq
            have gs1 := gs 1 _ rfl
            have gs2 := gs 2 _ rfl
            clear hG gs
            go_simp
            exact HK.out _ _ (Below.refl _ _) HG.out rfl
          · intro vs wx hG hd K hK
            replace hK : ∀ (uu : Value) (w' : World), Below wx.heap.size wx w' → ((Gd w1 m room (fz fuse) false (some ⟨g, 0, none⟩) cap qs)) w' → (Hs w1) (.inl (.int .i64 (i : Int))) uu w' → K _ w' := hK
            simp only [Act.put, List.setIfInBounds_toArray, List.set_cons_zero, List.set_cons_succ] at hK ⊢
            have HK := Lib.hid hK
            have HG := Lib.hid hG
            clear hK hd
            clear hG
            go_simp
            exact HK.out _ _ (Below.refl _ _) HG.out rfl
          · intro vs wx hG hd K hK
            have e9 : vs 9 = .slice (some ⟨g, 0, none⟩) qs.length cap := hd.get (j := 9) (by simp [depsOf, Region.binds])
            have e10 : vs 10 = .int .i64 (i : Int) := hd.get (j := 10) (by simp [depsOf, Region.binds])
            replace hK : ∀ (uu : Value) (w' : World), Below wx.heap.size wx w' → ((Gd w1 m room (fz fuse) false (some ⟨g, 0, none⟩) cap qs)) w' → (Hs w1) (.inl (.pointer (some ⟨g, i * 4, none⟩))) uu w' → K _ w' := hK
            simp only [Act.put, List.setIfInBounds_toArray, List.set_cons_zero, List.set_cons_succ, e9, e10] at hK ⊢
            have HK := Lib.hid hK
            have HG := Lib.hid hG
            clear hK hd e9 e10
            clear hG
            go_simp
            exact HK.out _ _ (Below.refl _ _) HG.out rfl
          · intro vs wx hG hd K hK
            have e11 : vs 11 = .pointer (some ⟨g, i * 4, none⟩) := hd.get (j := 11) (by simp [depsOf, Region.binds])
            replace hK : ∀ (uu : Value) (w' : World), Below wx.heap.size wx w' → ((Gd w1 m room (fz fuse) false (some ⟨g, 0, none⟩) cap qs)) w' → (Hs w1) (.inl (.pointer (some ⟨g, i * 4 + 1, none⟩))) uu w' → K _ w' := hK
            simp only [Act.put, List.setIfInBounds_toArray, List.set_cons_zero, List.set_cons_succ, e11] at hK ⊢
            have HK := Lib.hid hK
            have HG := Lib.hid hG
            clear hK hd e11
            clear hG
            go_simp
            exact HK.out _ _ (Below.refl _ _) HG.out rfl
          · intro vs wx hG hd K hK
            have e12 : vs 12 = .pointer (some ⟨g, i * 4 + 1, none⟩) := hd.get (j := 12) (by simp [depsOf, Region.binds])
            replace hK : ∀ (uu : Value) (w' : World), Below wx.heap.size wx w' → ((Gd w1 m room (fz fuse) false (some ⟨g, 0, none⟩) cap qs)) w' → (Hs w1) (.inl (.slice q.A q.x.l q.c)) uu w' → K _ w' := hK
            simp only [Act.put, List.setIfInBounds_toArray, List.set_cons_zero, List.set_cons_succ, e12] at hK ⊢
            have HK := Lib.hid hK
            have HG := Lib.hid hG
            clear hK hd e12
            have gc1 := HG.out.c1
            obtain ⟨gs, _⟩ := HG.out.slot hiq
            have gs1 := gs 1 _ rfl
            have gs2 := gs 2 _ rfl
            clear hG gs
            go_simp
            exact HK.out _ _ (Below.refl _ _) HG.out rfl
          · intro vs wx hG hd K hK
            replace hK : ∀ (uu : Value) (w' : World), Below wx.heap.size wx w' → ((Gd w1 m room (fz fuse) false (some ⟨g, 0, none⟩) cap qs)) w' → (Hs w1) (.inl (.pointer (some ⟨m, 0, none⟩))) uu w' → K _ w' := hK
            simp only [Act.put, List.setIfInBounds_toArray, List.set_cons_zero, List.set_cons_succ] at hK ⊢
            have HK := Lib.hid hK
            have HG := Lib.hid hG
            clear hK hd
            clear hG
            go_simp
            exact HK.out _ _ (Below.refl _ _) HG.out rfl
          · intro vs wx hG hd K hK
            have e14 : vs 14 = .pointer (some ⟨m, 0, none⟩) := hd.get (j := 14) (by simp [depsOf, Region.binds])
            replace hK : ∀ (uu : Value) (w' : World), Below wx.heap.size wx w' → ((Gd w1 m room (fz fuse) false (some ⟨g, 0, none⟩) cap qs)) w' → (Hs w1) (.inl (.pointer (some ⟨m, 0, none⟩))) uu w' → K _ w' := hK
            simp only [Act.put, List.setIfInBounds_toArray, List.set_cons_zero, List.set_cons_succ, e14] at hK ⊢
            have HK := Lib.hid hK
            have HG := Lib.hid hG
            clear hK hd e14
            clear hG
            go_simp
            exact HK.out _ _ (Below.refl _ _) HG.out rfl
          · intro vs wx hG hd K hK
            have e15 : vs 15 = .pointer (some ⟨m, 0, none⟩) := hd.get (j := 15) (by simp [depsOf, Region.binds])
            replace hK : ∀ (uu : Value) (w' : World), Below wx.heap.size wx w' → ((Gd w1 m room (fz fuse) false (some ⟨g, 0, none⟩) cap qs)) w' → (Hs w1) (.inl (.pointer (some ⟨m, 1, none⟩))) uu w' → K _ w' := hK
            simp only [Act.put, List.setIfInBounds_toArray, List.set_cons_zero, List.set_cons_succ, e15] at hK ⊢
            have HK := Lib.hid hK
            have HG := Lib.hid hG
            clear hK hd e15
            clear hG
            go_simp
            exact HK.out _ _ (Below.refl _ _) HG.out rfl
          · intro vs wx hG hd K hK
            have e16 : vs 16 = .pointer (some ⟨m, 1, none⟩) := hd.get (j := 16) (by simp [depsOf, Region.binds])
            replace hK : ∀ (uu : Value) (w' : World), Below wx.heap.size wx w' → ((Gd w1 m room (fz fuse) false (some ⟨g, 0, none⟩) cap qs)) w' → (Hs w1) (.inl (.slice (some ⟨g, 0, none⟩) qs.length cap)) uu w' → K _ w' := hK
            simp only [Act.put, List.setIfInBounds_toArray, List.set_cons_zero, List.set_cons_succ, e16] at hK ⊢
            have HK := Lib.hid hK
            have HG := Lib.hid hG
            clear hK hd e16
            have gc1 := HG.out.c1
            obtain ⟨gs, _⟩ := HG.out.slot hiq
            have gs1 := gs 1 _ rfl
            have gs2 := gs 2 _ rfl
            clear hG gs
            go_simp
            exact HK.out _ _ (Below.refl _ _) HG.out rfl
          · intro vs wx hG hd K hK
            replace hK : ∀ (uu : Value) (w' : World), Below wx.heap.size wx w' → ((Gd w1 m room (fz fuse) false (some ⟨g, 0, none⟩) cap qs)) w' → (Hs w1) (.inl (.int .i64 (i : Int))) uu w' → K _ w' := hK
            simp only [Act.put, List.setIfInBounds_toArray, List.set_cons_zero, List.set_cons_succ] at hK ⊢
            have HK := Lib.hid hK
            have HG := Lib.hid hG
            clear hK hd
            clear hG
            go_simp
            exact HK.out _ _ (Below.refl _ _) HG.out rfl
          · intro vs wx hG hd K hK
            have e17 : vs 17 = .slice (some ⟨g, 0, none⟩) qs.length cap := hd.get (j := 17) (by simp [depsOf, Region.binds])
            have e18 : vs 18 = .int .i64 (i : Int) := hd.get (j := 18) (by simp [depsOf, Region.binds])
            replace hK : ∀ (uu : Value) (w' : World), Below wx.heap.size wx w' → ((Gd w1 m room (fz fuse) false (some ⟨g, 0, none⟩) cap qs)) w' → (Hs w1) (.inl (.pointer (some ⟨g, i * 4, none⟩))) uu w' → K _ w' := hK
            simp only [Act.put, List.setIfInBounds_toArray, List.set_cons_zero, List.set_cons_succ, e17, e18] at hK ⊢
            have HK := Lib.hid hK
            have HG := Lib.hid hG
            clear hK hd e17 e18
            clear hG
            go_simp
            exact HK.out _ _ (Below.refl _ _) HG.out rfl
          · intro vs wx hG hd K hK
            have e19 : vs 19 = .pointer (some ⟨g, i * 4, none⟩) := hd.get (j := 19) (by simp [depsOf, Region.binds])
            replace hK : ∀ (uu : Value) (w' : World), Below wx.heap.size wx w' → ((Gd w1 m room (fz fuse) false (some ⟨g, 0, none⟩) cap qs)) w' → (Hs w1) (.inl (.pointer (some ⟨g, i * 4 + 2, none⟩))) uu w' → K _ w' := hK
            simp only [Act.put, List.setIfInBounds_toArray, List.set_cons_zero, List.set_cons_succ, e19] at hK ⊢
            have HK := Lib.hid hK
            have HG := Lib.hid hG
            clear hK hd e19
            clear hG
            go_simp
            exact HK.out _ _ (Below.refl _ _) HG.out rfl
          · intro vs wx hG hd K hK
            have e20 : vs 20 = .pointer (some ⟨g, i * 4 + 2, none⟩) := hd.get (j := 20) (by simp [depsOf, Region.binds])
            replace hK : ∀ (uu : Value) (w' : World), Below wx.heap.size wx w' → ((Gd w1 m room (fz fuse) false (some ⟨g, 0, none⟩) cap qs)) w' → (Hs w1) (.inl (.slice q.B (q.x.b.length - q.x.l) q.d)) uu w' → K _ w' := hK
            simp only [Act.put, List.setIfInBounds_toArray, List.set_cons_zero, List.set_cons_succ, e20] at hK ⊢
            have HK := Lib.hid hK
            have HG := Lib.hid hG
            clear hK hd e20
            have gc1 := HG.out.c1
            obtain ⟨gs, _⟩ := HG.out.slot hiq
            have gs1 := gs 1 _ rfl
            have gs2 := gs 2 _ rfl
            clear hG gs
            go_simp
            exact HK.out _ _ (Below.refl _ _) HG.out rfl
          · intro vs wx hG hd K hK
            have e13 : vs 13 = .slice q.A q.x.l q.c := hd.get (j := 13) (by simp [depsOf, Region.binds])
            have e21 : vs 21 = .slice q.B (q.x.b.length - q.x.l) q.d := hd.get (j := 21) (by simp [depsOf, Region.binds])
            replace hK : ∀ (uu : Value) (w' : World), Below wx.heap.size wx w' → ((Gd w1 m room (fz fuse) false (some ⟨g, 0, none⟩) cap qs)) w' → (Hs w1) (.inr (none, q.x.b)) uu w' → K _ w' := hK
            simp only [Act.put, List.setIfInBounds_toArray, List.set_cons_zero, List.set_cons_succ, e13, e21] at hK ⊢
            have HK := Lib.hid hK
            have HG := Lib.hid hG
            clear hK hd e13 e21
            clear hG
            go_simp
            go_at_call 42
            refine (HJ.out _ HG.out.bel).mono ?_
            rintro e w9 ⟨A9, c9, rfl, ho, hb⟩
            exact HK.out _ _ hb (HG.out.below hb) ⟨A9, c9, rfl, ho.more HG.out.bel.size⟩
          · intro vs wx hG hd K hK
            have e5 : vs 5 = .int .i64 n := hd.get (j := 5) (by simp [depsOf, Region.binds])
            obtain ⟨A22, c22, e22, q22⟩ : ∃ Aq cq, vs 22 = .slice Aq q.x.b.length cq ∧ Ob wx w1.heap.size (.slice Aq q.x.b.length cq) q.x.b := hd.get (j := 22) (by simp [depsOf, Region.binds])
            replace hK : ∀ (uu : Value) (w' : World), Below wx.heap.size wx w' → ((Gd w1 m room (fz fuse) false (some ⟨g, 0, none⟩) cap qs)) w' → (Hs w1) (.inr (some n, q.x.b)) uu w' → K _ w' := hK
            simp only [Act.put, List.setIfInBounds_toArray, List.set_cons_zero, List.set_cons_succ, e5, e22] at hK ⊢
            have HK := Lib.hid hK
            have HG := Lib.hid hG
            clear hK hd e5 e22
            clear hG
            go_simp
            exact HK.out _ _ (Below.refl _ _) HG.out ⟨A22, c22, rfl, q22⟩
          · intro vs wx hG hd K hK
            have e3 : vs 3 = .slice (some ⟨g, 0, none⟩) qs.length cap := hd.get (j := 3) (by simp [depsOf, Region.binds])
            have e4 : vs 4 = .int .i64 (i : Int) := hd.get (j := 4) (by simp [depsOf, Region.binds])
            replace hK : ∀ (uu : Value) (w' : World), Below wx.heap.size wx w' → ((Gd w1 m room (fz fuse) false (some ⟨g, 0, none⟩) cap qs)) w' → (Hs w1) (.inl (.pointer (some ⟨g, i * 4, none⟩))) uu w' → K _ w' := hK
            simp only [Act.put, List.setIfInBounds_toArray, List.set_cons_zero, List.set_cons_succ, e3, e4] at hK ⊢
            have HK := Lib.hid hK
            have HG := Lib.hid hG
            clear hK hd e3 e4
            clear hG
            go_simp
            exact HK.out _ _ (Below.refl _ _) HG.out rfl
          · intro vs wx hG hd K hK
            have e24 : vs 24 = .pointer (some ⟨g, i * 4, none⟩) := hd.get (j := 24) (by simp [depsOf, Region.binds])
            obtain ⟨A23, c23, e23, q23⟩ : ∃ Aq cq, vs 23 = .agg #[.int .i64 n, .slice Aq q.x.b.length cq, .slice none 0 0, .bool true] ∧ Ob wx w1.heap.size (.slice Aq q.x.b.length cq) q.x.b := hd.get (j := 23) (by simp [depsOf, Region.binds])
            replace hK : ∀ (uu : Value) (w' : World), (Es w1 m room (fz fuse) false g cap qs i ⟨n, q.x.b, q.x.b.length, true⟩) w' → K _ w' := hK
            simp only [Act.put, e24, e23] at hK ⊢
            have HK := Lib.hid hK
            have HG := Lib.hid hG
            clear hK hd e24 e23
            obtain ⟨gs, gfr⟩ := HG.out.slot hiq
            have gs0 : wx.cell? ⟨g, i * 4, none⟩ = _ := gs 0 _ rfl
            have gs1 := gs 1 _ rfl
            have gs2 := gs 2 _ rfl
            have gs3 := gs 3 _ rfl
            have gf0 : wx.frozen? ⟨g, i * 4, none⟩ = _ := gfr (i * 4)
            have gf1 := gfr (i * 4 + 1)
            have gf2 := gfr (i * 4 + 2)
            have gf3 := gfr (i * 4 + 3)
            have HE9 := Lib.hid (es_sync (n := n) (i := i) HD1.out HG.out q23)
            clear hG gs gfr q23
            go_simp
            refine HK.out undef _ ?_
            have := HE9.out
            simp only [put4, Nat.sub_self] at this
            exact this
        case hend =>
          rintro vs wx ⟨q', e', D2, t2, hN⟩
          have HR := Lib.hid (RD.turned (a' := ⟨room, fz fuse, false, syncA n (qs.map Rq.x)⟩) HB.out D2 (by rw [HE.out, List.map_set, e', hxn]) ((HT1.out.mono fun _ _ h => .inl h).thenQ t2 fun k _ h => by subst h; exact .inr (.inl rfl)) (fun k hk => (hN k hk).imp id fun h => Nat.le_trans HT1.out.size h) 0)
          clear D2 t2 hN e'
          go_wp2_with fail
          go_ret
          exact HR.out
end
end Go.Proofs.Ytkkaehaoahpibaa
namespace Go.Proofs.Ytkkaehaoahpibaa
open Go.RowKit

/-- One more of the two has come up. -/
def upG (i p : Nat) (b : Bool) : Bool := match Nat.beq i p with | true => true | false => b
theorem upG_eq (l : Nat → Bool) (i p : Nat) : updR l i true p = upG i p (l p) := by
  by_cases e : p = i
  · subst e
    rw [updR_same]
    unfold upG
    rw [Nat.beq_refl]
  · rw [updR_ne _ _ e]
    unfold upG
    have hb : Nat.beq i p = false := by
      cases h : Nat.beq i p with
      | false => rfl
      | true => exact absurd (Nat.eq_of_beq_eq_true h).symm e
    rw [hb]
theorem region_G {P : Program} {Q : Exit → Act → World → Prop} {ops : Array Oper} {id : Nat} {a0 : Act} {w0 : World} (G : Bool → Bool → World → Prop) (p q : Nat) (xs : List Value)
    (F : (Nat → Value) → Act) (hF : ∀ vs, F vs = putAll vs 0 ops.toList a0) (hm : P.follows .mixedOrders = true) (hf : fitsR ops = true) (hp : (Nat.blt p ops.size && Nat.blt q ops.size) = true)
    (hQ : ∀ c (x y : Act) w, x.defers = y.defers → Q (.panic c) x w → Q (.panic c) y w)
    (h0 : G false false w0.drew)
    (hstep : AllOps (fun i o => ∀ vs b c w, G b c w → AllD (fun j => vs j = xs.getD j undef) (depsOf o) → (Nat.beq i p = true → b = false) → (Nat.beq i q = true → c = false) →
      ∀ K : Act → World → Prop, (∀ w', G (upG i p b) (upG i q c) w' → K ((F vs).put o.dst (xs.getD i undef)) w') →
        if Region.wanted o (yielded ops (F vs).tmps) = true then Oper.wp P o (F vs) w K Q else K ((F vs).put o.dst undef) w) 0 ops.toList)
    (hend : ∀ vs w, G true true w → (∀ i, i < ops.size → vs i = xs.getD i undef) → Q .normal (F vs) w) :
    (Code.region id ops true).wp P Q a0 w0 := by
  simp only [Bool.and_eq_true, Nat.blt_eq] at hp
  refine region_inv hm hf F hF hQ (fun l vs w => G (l p) (l q) w ∧ ∀ i, l i = true → vs i = xs.getD i undef) ⟨h0, fun _ h => by cases h⟩ ?_ (fun l vs w hl hJ => ?_)
  · intro i o ho l vs w ⟨hG, hV⟩ hli hall K hK
    have hd := mem_deps ho hall
    have ho' : ops.toList[i]? = some o := by rw [Array.getElem?_toList]; exact ho
    have go := hstep.get ho'
    rw [Nat.zero_add] at go
    have hdep : AllD (fun j => vs j = xs.getD j undef) (depsOf o) := by
      have hdo : depsAt ops i = depsOf o := by simp [depsAt, ho]
      rw [hdo] at hd
      exact AllD.of (fun j hj => hV j hj) (AllL.mk hd)
    refine go vs (l p) (l q) w hG hdep (fun h => by have := Nat.eq_of_beq_eq_true h; subst this; exact hli) (fun h => by have := Nat.eq_of_beq_eq_true h; subst this; exact hli) K fun w' hG' => hK _ w' ⟨?_, fun j hj => ?_⟩
    · rw [upG_eq, upG_eq]; exact hG'
    · by_cases ej : j = i
      · subst ej; rw [updR_same]
      · rw [updR_ne _ _ ej] at hj ⊢
        exact hV j hj
  · have h1 := hJ.1
    rw [hl p hp.1, hl q hp.2] at h1
    exact hend vs w h1 fun i hi => hJ.2 i (hl i hi)
end Go.Proofs.Ytkkaehaoahpibaa
