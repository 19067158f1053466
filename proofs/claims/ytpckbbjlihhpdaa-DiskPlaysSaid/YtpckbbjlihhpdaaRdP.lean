/- The document's disk: Drop. -/
import Derived.Test.YtpckbbjlihhpdaaRdD
import Derived.Test.YtpckbbjlihhpdaaEl2
import Derived.Test.YtpckbbjlihhpdaaSCl
namespace Go.Proofs.Ytpckbbjlihhpdaa
open Go.RowKit Go.BigFrame

theorem info_sg : (Try.prog.info? SG).map (fun i => (i.zero, i.size, i.bytes)) = some (some (.agg #[.int .i64 0, .slice none 0 0, .slice none 0 0, .bool false]), 4, 64) := by kernel_rfl
theorem RK.newLB {w1 wr : World} {m cap c' : Nat} {room fuse : Int} {down : Bool} {A A' : Option Addr} {qs rs : List Rq} (h : RK w1 m room fuse down A cap qs) (hb : Below w1.heap.size w1 wr) (so : So encQ 4 wr w1.heap.size SG (.slice A' rs.length c') rs)
    (hr : ∀ q ∈ rs, GQ wr q ∧ ∀ k, fq q k → k ≠ m ∧ (Value.slice A' rs.length c').ownBlock ≠ some k ∧ (fK m A cap qs k ∨ w1.heap.size ≤ k)) :
    RK (wr.setCell ⟨m, 1, none⟩ (.slice A' rs.length c')) m room fuse down A' c' rs ∧ Tn (fK m A cap qs) w1 (wr.setCell ⟨m, 1, none⟩ (.slice A' rs.length c')) ∧ ∀ k, fK m A' c' rs k → fK m A cap qs k ∨ w1.heap.size ≤ k := by
  have hml : m < w1.heap.size := World.block_lt_of_cell? w1 _ h.c0
  refine ⟨(h.below hb).newL (so.more (Nat.zero_le _)) (fun e => by have := (so.lt m e).1; omega) (fun q hq => (hr q hq).1) (fun q hq k hk => ⟨((hr q hq).2 k hk).1, ((hr q hq).2 k hk).2.1⟩), (Tn.ofNew hb).thenQ (Tn.setCell wr m 1 _) (fun k _ e => .inl e), ?_⟩
  rintro k (rfl | hk | ⟨q, hq, hk⟩)
  · exact .inl (.inl rfl)
  · exact .inr (so.lt k hk).1
  · exact ((hr q hq).2 k hk).2.2
theorem RK.oldQ {w1 wr : World} {m cap c' n : Nat} {room fuse : Int} {down : Bool} {A A' : Option Addr} {qs rs : List Rq} {q : Rq} (h : RK w1 m room fuse down A cap qs) (hb : Below w1.heap.size w1 wr) (so : So encQ 4 wr w1.heap.size SG (.slice A' n c') rs) (hq : q ∈ qs) :
    GQ wr q ∧ ∀ k, fq q k → k ≠ m ∧ (Value.slice A' n c').ownBlock ≠ some k ∧ (fK m A cap qs k ∨ w1.heap.size ≤ k) :=
  ⟨(h.gq q hq).tn (P := fun _ => False) (Tn.ofNew hb) fun _ _ h => h, fun k hk => ⟨(h.sep q hq k hk).1, fun e => by have := (so.lt k e).1; have := (h.gq q hq).lt hk; omega, .inl (.inr (.inr ⟨q, hq, hk⟩))⟩⟩
def dq (qs : List Rq) (i j : Nat) : List Rq := (qs.take j).take i ++ (qs.take j).drop (i + 1)
theorem dq_eq {qs : List Rq} {i : Nat} (_h : i < qs.length) : dq qs i (i + 1) = dq qs i i := by
  unfold dq
  simp [List.take_take]
  omega
theorem dq_ne {qs : List Rq} {i j : Nat} (h : j < qs.length) (hn : j ≠ i) : dq qs i (j + 1) = dq qs i j ++ [qs[j]] := by
  unfold dq
  rw [List.take_succ_eq_append_getElem h]
  have hl : (qs.take j).length = j := by simp; omega
  rcases Nat.lt_or_ge j i with hlt | hge
  · rw [List.take_of_length_le (l := qs.take j ++ [qs[j]]) (i := i) (by rw [List.length_append, hl]; simp; omega), List.drop_of_length_le (l := qs.take j ++ [qs[j]]) (i := i + 1) (by rw [List.length_append, hl]; simp; omega), List.take_of_length_le (l := qs.take j) (i := i) (by omega), List.drop_of_length_le (l := qs.take j) (i := i + 1) (by omega)]
    simp
  · rw [List.take_append_of_le_length (by omega), List.drop_append_of_le_length (by omega), List.append_assoc]
theorem dq_len {qs : List Rq} {i j : Nat} : (dq qs i j).length ≤ j := by
  unfold dq
  simp
  omega
theorem dq_mem {qs : List Rq} {i j : Nat} {q : Rq} (h : q ∈ dq qs i j) : q ∈ qs := by
  unfold dq at h
  rcases List.mem_append.1 h with h | h
  · exact List.mem_of_mem_take (List.mem_of_mem_take h)
  · exact List.mem_of_mem_take (List.mem_of_mem_drop h)
section
variable {B : Nat → Prop} {w : World} {m : Nat} {a a' : Ad} {n r : Int}
set_option maxRecDepth 100000 in
set_option maxHeartbeats 3200000 in
theorem rdrop_RD (h : RD w B m a) (hl : Lim a) (hr : opD dropA a n = (r, a')) :
    Calls Try.prog 28 #[rP m, .int .i64 n] w (Rn w B m r a') := by
  obtain ⟨A, cap, qs, D, e, hB⟩ := h.ex
  clear h
  obtain ⟨room, fuse, down, L⟩ := a
  obtain ⟨hle, hrm, hln, hf1, hf2, hri⟩ := hl
  simp only at D e hle hrm hln hf1 hf2 hri
  subst e
  have hlen : qs.length ≤ 1024 := by simpa using hln
  unfold opD at hr
  simp only at hr
  cases down with
  | true =>
    rw [if_pos rfl] at hr
    cases hr
    have HR := Lib.hid (RD.turned (a' := ⟨room, fuse, true, qs.map Rq.x⟩) hB D rfl (Tn.refl _ _) (fun _ h => .inl h) 5)
    have c3 := D.c3
    clear D hB hle hrm hln hf1 hf2 hri hlen
    go_enter Try.func28, Try.ntmps28
    go_wp2
    go_ret
    exact HR.out
  | false =>
    rw [if_neg (by decide)] at hr
    have c3 := D.c3
    have HF := Lib.hid (rfind_any D (by omega) n)
    rcases find_cases (qs.map Rq.x) n with ⟨hh, hf⟩ | ⟨i, x, hx, hxn, hf, hh⟩
    · rw [hh, if_pos rfl] at hr
      cases hr
      rw [hf] at HF
      have HR := Lib.hid (RD.turned (a' := ⟨room, fuse, false, qs.map Rq.x⟩) hB D rfl (Tn.refl _ _) (fun _ h => .inl h) 6)
      clear D hB hle hrm hln hf1 hf2 hri hlen hf hh
      go_enter Try.func28, Try.ntmps28
      go_wp2_with fail
      go_at_call 44
      refine HF.out.mono ?_
      rintro _ _ ⟨rfl, rfl⟩
      go_wp2_with fail
      go_ret
      exact HR.out
    · rw [hh, if_neg (by decide)] at hr
      rw [hf] at HF
      have hi0 : (0 : Int) ≤ (i : Int) := Int.natCast_nonneg i
      by_cases hz : fuse = 0
      · subst hz
        rw [if_pos rfl] at hr
        cases hr
        have HP := Lib.hid (rpow_no D)
        have HB := Lib.hid hB
        have HD := Lib.hid D
        clear D hB hle hrm hln hf1 hf2 hri hf hh hx hlen
        go_enter Try.func28, Try.ntmps28
        go_wp2_with fail
        go_at_call 44
        refine HF.out.mono ?_
        rintro _ _ ⟨rfl, rfl⟩
        go_wp2_with fail
        go_at_call 45
        refine HP.out.mono ?_
        rintro _ w1 ⟨rfl, D1, t1⟩
        have HR := Lib.hid (RD.turned (a' := ⟨room, 0, true, qs.map Rq.x⟩) HB.out D1 rfl (t1.mono fun _ _ h => .inl h) (fun _ h => .inl h) 5)
        clear D1 t1
        go_wp2_with fail
        go_ret
        exact HR.out
      · rw [if_neg hz] at hr
        cases hr
        have HP := Lib.hid (rpow_yes D hz hf1 hf2)
        obtain ⟨q, hiq, hqx⟩ : ∃ q, qs[i]? = some q ∧ q.x = x := by
          rw [List.getElem?_map] at hx
          cases hq : qs[i]? with
          | none => rw [hq] at hx; cases hx
          | some q => rw [hq] at hx; exact ⟨q, rfl, by simpa using hx⟩
        subst hqx
        have hsum : q.x.b.length ≤ 67108864 := by
          have h1 := sum_next (qs := qs) (k := i) (List.getElem?_eq_some_iff.1 hiq).1
          have h2 := sum_take (qs := qs) (i + 1)
          rw [(List.getElem?_eq_some_iff.1 hiq).2] at h1
          omega
        have HE := Lib.hid (drop_at hri hx hxn)
        have HB := Lib.hid hB
        have hil : i < qs.length := (List.getElem?_eq_some_iff.1 hiq).1
        clear hle hrm hln hf1 hf2 hri hf hh hx hB D
        go_enter Try.func28, Try.ntmps28
        go_wp2_with fail
        go_at_call 44
        refine HF.out.mono ?_
        rintro _ _ ⟨rfl, rfl⟩
        go_wp2_with fail
        go_at_call 45
        refine HP.out.mono ?_
        rintro _ w1 ⟨rfl, D1, t1⟩
        have HD1 := Lib.hid D1
        have HT1 := Lib.hid t1
        clear t1
        have D1' := D1
        obtain ⟨g, rfl⟩ := D1.addr (by omega)
        have hle := (D1.so.sr encQ_len).1.le
        have hmx := (D1.so.sr encQ_len).1.max
        unfold maxLen at hmx
        clear D1' D1 hsum
        go_wp2_with fail
        go_loopw [6, 7] (fun l jv wr => ∃ (j k c : Nat) (B : Option Addr), j ≤ qs.length ∧ jv = .int .i64 j ∧ l = .slice B k c ∧ Hid (k = (dq qs i j).length) ∧ Hid (So encQ 4 wr w1.heap.size SG (.slice B k c) (dq qs i j)) ∧ Hid (Below w1.heap.size w1 wr)) (fun _ jv _ => qs.length - (intOf jv).toNat)
        case atStart => exact ⟨0, 0, 0, none, Nat.zero_le _, rfl, rfl, Lib.hid (by simp [dq]), Lib.hid (by simpa [dq] using So.empty _ _ _ _ _), Lib.hid (Below.refl _ _)⟩
        case round =>
          obtain ⟨j, k, c, B, hj, rfl, rfl, HL, HSO, HBL⟩ := hrel
          rename World => wr
          have z2 : w1.heap.size ≤ wr.heap.size := HBL.out.size
          have H2 := Lib.hid (HD1.out.below HBL.out)
          have d1 := H2.out.c1
          have hkl : k ≤ j := by rw [HL.out]; exact dq_len
          by_cases hlt : j < qs.length
          · have i1 : (j : Int) < qs.length := by omega
            by_cases hji : j = i
            · have HE2 := Lib.hid (by rw [hji]; exact dq_eq hil : dq qs i (j + 1) = dq qs i j)
              have b1 : ((j : Int) == (i : Int)) = true := beq_iff_eq.2 (by omega)
              clear hji
              go_wp2_with fail
              go_roundw
              case rel => exact ⟨j + 1, k, c, B, by omega, by go_num, rfl, by rw [HE2.out]; exact HL, by rw [HE2.out]; exact HSO, HBL⟩
              case measure => simp [intOf]; omega
            · have b1 : ((j : Int) == (i : Int)) = false := beq_eq_false_iff_ne.2 (by omega)
              have hE2 := dq_ne hlt hji
              obtain ⟨us, _⟩ := H2.out.slot (List.getElem?_eq_getElem hlt)
              obtain ⟨y, hy⟩ : ∃ y, y = qs[j] := ⟨_, rfl⟩
              rw [← hy] at us
              have u0 : wr.cell? ⟨g, j * 4, none⟩ = some (.int .i64 y.x.n) := us 0 _ rfl
              have u1 : wr.cell? ⟨g, j * 4 + 1, none⟩ = some (.slice y.A y.x.l y.c) := us 1 _ rfl
              have u2 : wr.cell? ⟨g, j * 4 + 2, none⟩ = some (.slice y.B (y.x.b.length - y.x.l) y.d) := us 2 _ rfl
              have u3 : wr.cell? ⟨g, j * 4 + 3, none⟩ = some (.bool y.x.k) := us 3 _ rfl
              rw [← hy] at hE2
              have HE2 := Lib.hid hE2
              clear us hy hji hE2
              go_wp2_with (at_builtin; refine wpList_pushE Try.underlying66 info_sg rfl (by decide) wr rfl (.tmp 32) (.tmp 40) rfl w1.heap.size (.slice B k c) (dq qs i j) rfl HSO.out y _ rfl rfl (encQ_one _) _ wr.heap.size rfl rfl (k + 1) (by rw [HL.out]) (by unfold maxLen; omega) (by omega) z2 ?_; intro A2 cap2 w2 hps2 hgrow2 hat2; have B2 : Below w1.heap.size w1 w2 := grown_below HBL.out hgrow2 z2 (fun _ h => (HSO.out.lt _ h).1))
              go_roundw
              case rel => exact ⟨j + 1, k + 1, cap2, A2, by omega, by go_num, rfl, Lib.hid (by rw [HE2.out, List.length_append, ← HL.out]; rfl), Lib.hid (by rw [HE2.out]; exact hps2), Lib.hid B2⟩
              case measure => simp [intOf]; omega
          · obtain rfl : j = qs.length := by omega
            have hk := HL.out
            subst hk
            have fr := H2.out.fr 1
            have h9 := HD1.out.newLB HBL.out HSO.out fun q hq => HD1.out.oldQ HBL.out HSO.out (dq_mem hq)
            have HR := Lib.hid (RD.turned (a' := ⟨room, fz fuse, false, dropA n (qs.map Rq.x)⟩) HB.out h9.1 (by rw [HE.out, ← List.map_take, ← List.map_drop, ← List.map_append]; unfold dq; rw [List.take_length]) ((HT1.out.mono fun _ _ h => .inl h).then (h9.2.1.mono fun _ _ h => h)) (fun k hk => (h9.2.2 k hk).imp id fun h => Nat.le_trans HT1.out.size h) 0)
            clear h9
            go_wp2_with fail
            go_ret
            exact HR.out
end
end Go.Proofs.Ytpckbbjlihhpdaa
