/- The document's disk: Append. -/
import Derived.Test.YtkkaehaoahpibaaPk7
namespace Go.Proofs.Ytkkaehaoahpibaa
open Go.RowKit Go.BigFrame

def q0 (n : Int) : Rq := ⟨⟨n, [], 0, false⟩, none, 0, none, 0⟩
theorem q0_gq (n : Int) (w : World) : GQ w (q0 n) := ⟨Nat.le_refl _, ⟨Nat.zero_le _, Nat.zero_le _, fun _ => rfl, fun h => absurd h (by simp [q0])⟩, ⟨Nat.zero_le _, Nat.zero_le _, fun _ => rfl, fun h => absurd h (by simp [q0])⟩⟩
theorem q0_fq (n : Int) (k : Nat) : ¬ fq (q0 n) k := by
  rintro (⟨hl, _⟩ | ⟨hl, _⟩)
  · simp [q0] at hl
  · simp [q0] at hl
def insQ (n : Int) (qs : List Rq) (k j : Nat) : List Rq := qs.take k ++ q0 n :: (qs.take j).drop k
theorem insQ_start {n : Int} {qs : List Rq} {k : Nat} (h : k ≤ qs.length) : insQ n qs k k = qs.take k ++ [q0 n] := by
  unfold insQ
  rw [List.drop_of_length_le (by simp; omega)]
theorem insQ_next (n : Int) {qs : List Rq} {k j : Nat} (hkj : k ≤ j) (h : j < qs.length) : insQ n qs k (j + 1) = insQ n qs k j ++ [qs[j]] := by
  unfold insQ
  rw [List.take_succ_eq_append_getElem h, List.drop_append_of_le_length (by simp; omega)]
  simp
theorem insQ_len (n : Int) {qs : List Rq} {k j : Nat} (hkj : k ≤ j) (h : j ≤ qs.length) : (insQ n qs k j).length = j + 1 := by
  unfold insQ
  simp
  omega
theorem insQ_end (n : Int) (qs : List Rq) (k : Nat) : insQ n qs k qs.length = qs.take k ++ q0 n :: qs.drop k := by
  unfold insQ
  rw [List.take_length]
theorem insQ_mem {n : Int} {qs : List Rq} {k j : Nat} {q : Rq} (h : q ∈ insQ n qs k j) : q ∈ qs ∨ q = q0 n := by
  unfold insQ at h
  rcases List.mem_append.1 h with h | h
  · exact .inl (List.mem_of_mem_take h)
  · rcases List.mem_cons.1 h with h | h
    · exact .inr h
    · exact .inl (List.mem_of_mem_take (List.mem_of_mem_drop h))
def eqV (p v : Value) (_ : World) : Prop := v = p
section
variable {w wx : World} {m cap i g : Nat} {room fuse : Int} {down : Bool} {qs : List Rq} {q : Rq} {p L9 : List UInt8}
theorem es_app {A9 : Option Addr} {c9 : Nat} (hw : RK w m room fuse down (some ⟨g, 0, none⟩) cap qs) (h : Gd w m room fuse down (some ⟨g, 0, none⟩) cap qs wx) (hi : qs[i]? = some q) (ho : Ob wx w.heap.size (.slice A9 L9.length c9) L9) (hL : L9 = q.x.b.drop q.x.l ++ p) :
    Es w m room fuse down g cap qs i ⟨q.x.n, q.x.b ++ p, q.x.l, q.x.k⟩ (wx.setCell ⟨g, i * 4 + 2, none⟩ (.slice A9 L9.length c9)) := by
  obtain ⟨hm, hg⟩ := Gd.lts hw
  have t := Tn.setCell wx g (i * 4 + 2) (.slice A9 L9.length c9)
  have hmem := List.mem_of_getElem? hi
  have hgq := h.k.gq q hmem
  have hlel := hgq.le
  have e1 : (q.x.b ++ p).take q.x.l = q.x.b.take q.x.l := List.take_append_of_le_length hlel
  have e2 : (q.x.b ++ p).drop q.x.l = L9 := by rw [hL]; exact List.drop_append_of_le_length hlel
  have e3 : (q.x.b ++ p).length - q.x.l = L9.length := by rw [← e2, List.length_drop]
  have hfq : ∀ k, fq ⟨⟨q.x.n, q.x.b ++ p, q.x.l, q.x.k⟩, q.A, q.c, A9, c9⟩ k → (fq q k ∨ w.heap.size ≤ k) := by
    rintro k (⟨hl, ad, e, ek⟩ | ⟨hl, ad, e, ek⟩)
    · simp only [e1] at hl
      exact .inl (.inl ⟨hl, ad, e, ek⟩)
    · simp only [e2] at hl
      exact .inr (own_block ho hl e ek).1
  refine ⟨⟨⟨q.x.n, q.x.b ++ p, q.x.l, q.x.k⟩, q.A, q.c, A9, c9⟩, rfl, h.k.put t (h.k.so.set1 encQ_len (j := 2) (by decide) hi (by simp only [encQ, e3]; rfl)) ⟨by simp only [List.length_append]; omega, ?_, ?_⟩ (fun k hk => ?_), (Tn.ofNew h.bel).then t, fun k hk => ?_⟩
  · simp only [e1]
    exact (t.bs hgq.b1 fun hl ad e eg => (h.k.sep q hmem g (.inl ⟨hl, ad, e, eg⟩)).2 rfl).more t.size
  · simp only [e2]
    exact (t.ob ho fun k hk e => by have := ho.lt k hk; omega).bs.1
  · rcases hfq k hk with h1 | h1
    · exact ⟨(h.k.sep q hmem k h1).1, fun e => (h.k.sep q hmem k h1).2 (by rw [e]; rfl)⟩
    · omega
  · rcases fK_set hk with h1 | h1
    · exact .inl h1
    · rcases hfq k h1 with h2 | h2
      · exact .inl (.inr (.inr ⟨q, hmem, h2⟩))
      · exact .inr h2
end
section
variable {B : Nat → Prop} {w : World} {m : Nat} {a a' : Ad} {n r : Int}
set_option maxRecDepth 100000 in
set_option maxHeartbeats 6400000 in
theorem rappend_RD {K' pc : Nat} {PA : Option Addr} {p : List UInt8} (h : RD w B m a) (hl : Lim a) (hb : Bs w K' PA pc p) (hK' : K' ≤ w.heap.size) (hfar : 0 < p.length → ∀ ad : Addr, PA = some ad → ¬ B ad.block) (hr : appD a n p = (r, a')) :
    Calls Try.prog 20 #[rP m, .int .i64 n, .slice PA p.length pc] w (Rn w B m r a') := by
  obtain ⟨A, cap, qs, D, e, hB⟩ := h.ex
  clear h
  obtain ⟨room, fuse, down, L⟩ := a
  obtain ⟨hle0, hrm, hln, hf1, hf2, hri⟩ := hl
  simp only at D e hle0 hrm hln hf1 hf2 hri
  subst e
  have hlen : qs.length ≤ 1024 := by simpa using hln
  have HPX : Hid (∀ W, Tn (fK m A cap qs) w W → Bs W W.heap.size PA pc p) := Lib.hid fun W t => (t.bs (hb.more hK') fun hl ad e ek => hfar hl ad e (hB _ ek)).more t.size
  have hpl := hb.le
  have hpm := hb.max
  unfold maxLen at hpm
  clear hb hfar hK'
  unfold appD at hr
  simp only at hr
  have c3 := D.c3
  cases down with
  | true =>
    rw [if_pos rfl] at hr
    cases hr
    have HR := Lib.hid (RD.turned (a' := ⟨room, fuse, true, qs.map Rq.x⟩) hB D rfl (Tn.refl _ _) (fun _ h => .inl h) 5)
    clear D hB hle0 hrm hln hf1 hf2 hri hlen
    go_enter Try.func20, Try.ntmps20
    go_wp2
    go_ret
    exact HR.out
  | false =>
    rw [if_neg (by decide)] at hr
    by_cases hn1 : n < 1
    · rw [if_pos hn1] at hr
      cases hr
      have HR := Lib.hid (RD.turned (a' := ⟨room, fuse, false, qs.map Rq.x⟩) hB D rfl (Tn.refl _ _) (fun _ h => .inl h) 1)
      clear D hB hle0 hrm hln hf1 hf2 hri hlen
      go_enter Try.func20, Try.ntmps20
      go_wp2
      go_ret
      exact HR.out
    rw [if_neg hn1] at hr
    have HF := Lib.hid (rfind_any D (by omega) n)
    obtain ⟨S, hS⟩ : ∃ S, S = sumA (qs.map Rq.x) := ⟨_, rfl⟩
    have HU : Hid (∀ W, RK W m room fuse false A cap qs → Calls Try.prog 36 #[rP m] W fun e w' => e = .returned (.int .i64 (S : Int)) ∧ Below W.heap.size W w') := Lib.hid fun W h => by
      rw [hS]
      exact rused_any h (by omega) (by omega)
    rw [← hS] at hle0 hr
    have HSS := Lib.hid hS
    have ew : wrap64 (room - S) = room - S := by unfold wrap64; omega
    have ew2 : IntKind.i64.wrap (room - S) = room - S := by rw [IntKind.wrap_i64]; omega
    have HB := Lib.hid hB
    have HD := Lib.hid D
    have HRI := Lib.hid hri
    clear D hB hln hS hri
    rcases find_cases (qs.map Rq.x) n with ⟨hh, hf⟩ | ⟨i, x, hx, hxn, hf, hh⟩
    · rw [hf] at HF
      rw [hh] at hr
      by_cases hfull : room - S < (p.length : Int)
      · rw [if_pos hfull] at hr
        cases hr
        have HV : Hid ((-1 : Int) = -1) := Lib.hid rfl
        have b9 : decide (room - S < (p.length : Int)) = true := by simpa using hfull
        clear hf hh hf1 hf2 HV
        go_enter Try.func20, Try.ntmps20
        go_wp2_with fail
        go_at_call 40
        refine HF.out.mono ?_
        rintro _ w9 ⟨rfl, hw9⟩
        replace hw9 := hw9.symm
        subst hw9
        go_wp2_with fail
        apply region_V eqV (Gd w m room fuse false A cap qs) [.slice PA p.length pc, .int .i64 (p.length : Int), .pointer (some ⟨m, 0, none⟩), .pointer (some ⟨m, 0, none⟩), .pointer (some ⟨m, 0, none⟩), .int .i64 room, .pointer (some ⟨m, 0, none⟩), .int .i64 (S : Int), .int .i64 (room - S), .bool true, .bool true, undef, undef, undef, undef, undef, undef, undef, undef, undef, undef, .bool true] (undef)
        case mono => exact fun p v w0 w9 h hb => h
        case hm => kernel_rfl
        case hf => kernel_rfl
        case hQ => exact (by intro c x y w e h; exact And.intro (e.symm.trans (And.left h)) (And.right h))
        case hF => intro vs; simp only [putAll, Act.put, List.setIfInBounds_toArray, List.set_cons_zero, List.set_cons_succ, Nat.reduceAdd]; rfl
        case h0 => exact ⟨HD.out.below ⟨rfl, rfl, rfl, Nat.le_refl _, fun _ _ => rfl⟩, ⟨rfl, rfl, rfl, Nat.le_refl _, fun _ _ => rfl⟩⟩
        case hstep =>
          repeat' (first | exact AllOps.nil | apply AllOps.cons)
          · intro vs wx hG hd K hK
            replace hK : ∀ (uu : Value) (w' : World), Below wx.heap.size wx w' → ((Gd w m room fuse false A cap qs)) w' → eqV (.slice PA p.length pc) uu w' → K _ w' := hK
            simp only [Act.put, List.setIfInBounds_toArray, List.set_cons_zero, List.set_cons_succ] at hK ⊢
            have HK := Lib.hid hK
            have HG := Lib.hid hG
            clear hK hd
            clear hG
            go_simp
            exact HK.out _ _ (Below.refl _ _) HG.out rfl
          · intro vs wx hG hd K hK
            have e0 : vs 0 = .slice PA p.length pc := hd.get (j := 0) (by simp [depsOf, Region.binds])
            replace hK : ∀ (uu : Value) (w' : World), Below wx.heap.size wx w' → ((Gd w m room fuse false A cap qs)) w' → eqV (.int .i64 (p.length : Int)) uu w' → K _ w' := hK
            simp only [Act.put, List.setIfInBounds_toArray, List.set_cons_zero, List.set_cons_succ, e0] at hK ⊢
            have HK := Lib.hid hK
            have HG := Lib.hid hG
            clear hK hd e0
            clear hG
            go_simp
            exact HK.out _ _ (Below.refl _ _) HG.out rfl
          · intro vs wx hG hd K hK
            replace hK : ∀ (uu : Value) (w' : World), Below wx.heap.size wx w' → ((Gd w m room fuse false A cap qs)) w' → eqV (.pointer (some ⟨m, 0, none⟩)) uu w' → K _ w' := hK
            simp only [Act.put, List.setIfInBounds_toArray, List.set_cons_zero, List.set_cons_succ] at hK ⊢
            have HK := Lib.hid hK
            have HG := Lib.hid hG
            clear hK hd
            clear hG
            go_simp
            exact HK.out _ _ (Below.refl _ _) HG.out rfl
          · intro vs wx hG hd K hK
            have e2 : vs 2 = .pointer (some ⟨m, 0, none⟩) := hd.get (j := 2) (by simp [depsOf, Region.binds])
            replace hK : ∀ (uu : Value) (w' : World), Below wx.heap.size wx w' → ((Gd w m room fuse false A cap qs)) w' → eqV (.pointer (some ⟨m, 0, none⟩)) uu w' → K _ w' := hK
            simp only [Act.put, List.setIfInBounds_toArray, List.set_cons_zero, List.set_cons_succ, e2] at hK ⊢
            have HK := Lib.hid hK
            have HG := Lib.hid hG
            clear hK hd e2
            clear hG
            go_simp
            exact HK.out _ _ (Below.refl _ _) HG.out rfl
          · intro vs wx hG hd K hK
            have e3 : vs 3 = .pointer (some ⟨m, 0, none⟩) := hd.get (j := 3) (by simp [depsOf, Region.binds])
            replace hK : ∀ (uu : Value) (w' : World), Below wx.heap.size wx w' → ((Gd w m room fuse false A cap qs)) w' → eqV (.pointer (some ⟨m, 0, none⟩)) uu w' → K _ w' := hK
            simp only [Act.put, List.setIfInBounds_toArray, List.set_cons_zero, List.set_cons_succ, e3] at hK ⊢
            have HK := Lib.hid hK
            have HG := Lib.hid hG
            clear hK hd e3
            clear hG
            go_simp
            exact HK.out _ _ (Below.refl _ _) HG.out rfl
          · intro vs wx hG hd K hK
            have e4 : vs 4 = .pointer (some ⟨m, 0, none⟩) := hd.get (j := 4) (by simp [depsOf, Region.binds])
            replace hK : ∀ (uu : Value) (w' : World), Below wx.heap.size wx w' → ((Gd w m room fuse false A cap qs)) w' → eqV (.int .i64 room) uu w' → K _ w' := hK
            simp only [Act.put, List.setIfInBounds_toArray, List.set_cons_zero, List.set_cons_succ, e4] at hK ⊢
            have HK := Lib.hid hK
            have HG := Lib.hid hG
            clear hK hd e4
            have gc0 := HG.out.k.c0
            have gc1 := HG.out.c1
            clear hG
            go_simp
            exact HK.out _ _ (Below.refl _ _) HG.out rfl
          · intro vs wx hG hd K hK
            replace hK : ∀ (uu : Value) (w' : World), Below wx.heap.size wx w' → ((Gd w m room fuse false A cap qs)) w' → eqV (.pointer (some ⟨m, 0, none⟩)) uu w' → K _ w' := hK
            simp only [Act.put, List.setIfInBounds_toArray, List.set_cons_zero, List.set_cons_succ] at hK ⊢
            have HK := Lib.hid hK
            have HG := Lib.hid hG
            clear hK hd
            clear hG
            go_simp
            exact HK.out _ _ (Below.refl _ _) HG.out rfl
          · intro vs wx hG hd K hK
            have e6 : vs 6 = .pointer (some ⟨m, 0, none⟩) := hd.get (j := 6) (by simp [depsOf, Region.binds])
            replace hK : ∀ (uu : Value) (w' : World), Below wx.heap.size wx w' → ((Gd w m room fuse false A cap qs)) w' → eqV (.int .i64 (S : Int)) uu w' → K _ w' := hK
            simp only [Act.put, List.setIfInBounds_toArray, List.set_cons_zero, List.set_cons_succ, e6] at hK ⊢
            have HK := Lib.hid hK
            have HG := Lib.hid hG
            clear hK hd e6
            clear hG
            go_simp
            go_at_call 36
            refine (HU.out _ HG.out.k).mono ?_
            rintro e w9 ⟨rfl, hb⟩
            exact HK.out _ _ hb (HG.out.below hb) rfl
          · intro vs wx hG hd K hK
            have e5 : vs 5 = .int .i64 room := hd.get (j := 5) (by simp [depsOf, Region.binds])
            have e7 : vs 7 = .int .i64 (S : Int) := hd.get (j := 7) (by simp [depsOf, Region.binds])
            replace hK : ∀ (uu : Value) (w' : World), Below wx.heap.size wx w' → ((Gd w m room fuse false A cap qs)) w' → eqV (.int .i64 (room - S)) uu w' → K _ w' := hK
            simp only [Act.put, List.setIfInBounds_toArray, List.set_cons_zero, List.set_cons_succ, e5, e7] at hK ⊢
            have HK := Lib.hid hK
            have HG := Lib.hid hG
            clear hK hd e5 e7
            clear hG
            go_simp
            exact HK.out _ _ (Below.refl _ _) HG.out rfl
          · intro vs wx hG hd K hK
            have e1 : vs 1 = .int .i64 (p.length : Int) := hd.get (j := 1) (by simp [depsOf, Region.binds])
            have e8 : vs 8 = .int .i64 (room - S) := hd.get (j := 8) (by simp [depsOf, Region.binds])
            replace hK : ∀ (uu : Value) (w' : World), Below wx.heap.size wx w' → ((Gd w m room fuse false A cap qs)) w' → eqV (.bool true) uu w' → K _ w' := hK
            simp only [Act.put, List.setIfInBounds_toArray, List.set_cons_zero, List.set_cons_succ, e1, e8] at hK ⊢
            have HK := Lib.hid hK
            have HG := Lib.hid hG
            clear hK hd e1 e8
            clear hG
            go_simp
            exact HK.out _ _ (Below.refl _ _) HG.out rfl
          · intro vs wx hG hd K hK
            have e9 : vs 9 = .bool true := hd.get (j := 9) (by simp [depsOf, Region.binds])
            replace hK : ∀ (uu : Value) (w' : World), Below wx.heap.size wx w' → ((Gd w m room fuse false A cap qs)) w' → eqV (.bool true) uu w' → K _ w' := hK
            simp only [Act.put, List.setIfInBounds_toArray, List.set_cons_zero, List.set_cons_succ, e9] at hK ⊢
            have HK := Lib.hid hK
            have HG := Lib.hid hG
            clear hK hd e9
            clear hG
            go_simp
            exact HK.out _ _ (Below.refl _ _) HG.out rfl
          · intro vs wx hG hd K hK
            have e10 : vs 10 = .bool true := hd.get (j := 10) (by simp [depsOf, Region.binds])
            replace hK : ∀ (uu : Value) (w' : World), Below wx.heap.size wx w' → ((Gd w m room fuse false A cap qs)) w' → eqV (undef) uu w' → K _ w' := hK
            simp only [Act.put, List.setIfInBounds_toArray, List.set_cons_zero, List.set_cons_succ, e10] at hK ⊢
            have HK := Lib.hid hK
            have HG := Lib.hid hG
            clear hK hd e10
            clear hG
            go_simp
            exact HK.out _ _ (Below.refl _ _) HG.out rfl
          · intro vs wx hG hd K hK
            have e10 : vs 10 = .bool true := hd.get (j := 10) (by simp [depsOf, Region.binds])
            have e11 : vs 11 = undef := hd.get (j := 11) (by simp [depsOf, Region.binds])
            replace hK : ∀ (uu : Value) (w' : World), Below wx.heap.size wx w' → ((Gd w m room fuse false A cap qs)) w' → eqV (undef) uu w' → K _ w' := hK
            simp only [Act.put, List.setIfInBounds_toArray, List.set_cons_zero, List.set_cons_succ, e10, e11] at hK ⊢
            have HK := Lib.hid hK
            have HG := Lib.hid hG
            clear hK hd e10 e11
            clear hG
            go_simp
            exact HK.out _ _ (Below.refl _ _) HG.out rfl
          · intro vs wx hG hd K hK
            have e10 : vs 10 = .bool true := hd.get (j := 10) (by simp [depsOf, Region.binds])
            have e12 : vs 12 = undef := hd.get (j := 12) (by simp [depsOf, Region.binds])
            replace hK : ∀ (uu : Value) (w' : World), Below wx.heap.size wx w' → ((Gd w m room fuse false A cap qs)) w' → eqV (undef) uu w' → K _ w' := hK
            simp only [Act.put, List.setIfInBounds_toArray, List.set_cons_zero, List.set_cons_succ, e10, e12] at hK ⊢
            have HK := Lib.hid hK
            have HG := Lib.hid hG
            clear hK hd e10 e12
            clear hG
            go_simp
            exact HK.out _ _ (Below.refl _ _) HG.out rfl
          · intro vs wx hG hd K hK
            have e13 : vs 13 = undef := hd.get (j := 13) (by simp [depsOf, Region.binds])
            replace hK : ∀ (uu : Value) (w' : World), Below wx.heap.size wx w' → ((Gd w m room fuse false A cap qs)) w' → eqV (undef) uu w' → K _ w' := hK
            simp only [Act.put, List.setIfInBounds_toArray, List.set_cons_zero, List.set_cons_succ, e13] at hK ⊢
            have HK := Lib.hid hK
            have HG := Lib.hid hG
            clear hK hd e13
            clear hG
            go_simp
            exact HK.out _ _ (Below.refl _ _) HG.out rfl
          · intro vs wx hG hd K hK
            have e13 : vs 13 = undef := hd.get (j := 13) (by simp [depsOf, Region.binds])
            have e14 : vs 14 = undef := hd.get (j := 14) (by simp [depsOf, Region.binds])
            replace hK : ∀ (uu : Value) (w' : World), Below wx.heap.size wx w' → ((Gd w m room fuse false A cap qs)) w' → eqV (undef) uu w' → K _ w' := hK
            simp only [Act.put, List.setIfInBounds_toArray, List.set_cons_zero, List.set_cons_succ, e13, e14] at hK ⊢
            have HK := Lib.hid hK
            have HG := Lib.hid hG
            clear hK hd e13 e14
            clear hG
            go_simp
            exact HK.out _ _ (Below.refl _ _) HG.out rfl
          · intro vs wx hG hd K hK
            have e13 : vs 13 = undef := hd.get (j := 13) (by simp [depsOf, Region.binds])
            have e15 : vs 15 = undef := hd.get (j := 15) (by simp [depsOf, Region.binds])
            replace hK : ∀ (uu : Value) (w' : World), Below wx.heap.size wx w' → ((Gd w m room fuse false A cap qs)) w' → eqV (undef) uu w' → K _ w' := hK
            simp only [Act.put, List.setIfInBounds_toArray, List.set_cons_zero, List.set_cons_succ, e13, e15] at hK ⊢
            have HK := Lib.hid hK
            have HG := Lib.hid hG
            clear hK hd e13 e15
            clear hG
            go_simp
            exact HK.out _ _ (Below.refl _ _) HG.out rfl
          · intro vs wx hG hd K hK
            have e13 : vs 13 = undef := hd.get (j := 13) (by simp [depsOf, Region.binds])
            have e16 : vs 16 = undef := hd.get (j := 16) (by simp [depsOf, Region.binds])
            replace hK : ∀ (uu : Value) (w' : World), Below wx.heap.size wx w' → ((Gd w m room fuse false A cap qs)) w' → eqV (undef) uu w' → K _ w' := hK
            simp only [Act.put, List.setIfInBounds_toArray, List.set_cons_zero, List.set_cons_succ, e13, e16] at hK ⊢
            have HK := Lib.hid hK
            have HG := Lib.hid hG
            clear hK hd e13 e16
            have gc0 := HG.out.k.c0
            have gc1 := HG.out.c1
            clear hG
            go_simp
            exact HK.out _ _ (Below.refl _ _) HG.out rfl
          · intro vs wx hG hd K hK
            have e13 : vs 13 = undef := hd.get (j := 13) (by simp [depsOf, Region.binds])
            have e17 : vs 17 = undef := hd.get (j := 17) (by simp [depsOf, Region.binds])
            replace hK : ∀ (uu : Value) (w' : World), Below wx.heap.size wx w' → ((Gd w m room fuse false A cap qs)) w' → eqV (undef) uu w' → K _ w' := hK
            simp only [Act.put, List.setIfInBounds_toArray, List.set_cons_zero, List.set_cons_succ, e13, e17] at hK ⊢
            have HK := Lib.hid hK
            have HG := Lib.hid hG
            clear hK hd e13 e17
            clear hG
            go_simp
            exact HK.out _ _ (Below.refl _ _) HG.out rfl
          · intro vs wx hG hd K hK
            have e13 : vs 13 = undef := hd.get (j := 13) (by simp [depsOf, Region.binds])
            have e18 : vs 18 = undef := hd.get (j := 18) (by simp [depsOf, Region.binds])
            replace hK : ∀ (uu : Value) (w' : World), Below wx.heap.size wx w' → ((Gd w m room fuse false A cap qs)) w' → eqV (undef) uu w' → K _ w' := hK
            simp only [Act.put, List.setIfInBounds_toArray, List.set_cons_zero, List.set_cons_succ, e13, e18] at hK ⊢
            have HK := Lib.hid hK
            have HG := Lib.hid hG
            clear hK hd e13 e18
            clear hG
            go_simp
            exact HK.out _ _ (Below.refl _ _) HG.out rfl
          · intro vs wx hG hd K hK
            have e10 : vs 10 = .bool true := hd.get (j := 10) (by simp [depsOf, Region.binds])
            have e13 : vs 13 = undef := hd.get (j := 13) (by simp [depsOf, Region.binds])
            have e19 : vs 19 = undef := hd.get (j := 19) (by simp [depsOf, Region.binds])
            replace hK : ∀ (uu : Value) (w' : World), Below wx.heap.size wx w' → ((Gd w m room fuse false A cap qs)) w' → eqV (undef) uu w' → K _ w' := hK
            simp only [Act.put, List.setIfInBounds_toArray, List.set_cons_zero, List.set_cons_succ, e10, e13, e19] at hK ⊢
            have HK := Lib.hid hK
            have HG := Lib.hid hG
            clear hK hd e10 e13 e19
            clear hG
            go_simp
            exact HK.out _ _ (Below.refl _ _) HG.out rfl
          · intro vs wx hG hd K hK
            have e10 : vs 10 = .bool true := hd.get (j := 10) (by simp [depsOf, Region.binds])
            have e20 : vs 20 = undef := hd.get (j := 20) (by simp [depsOf, Region.binds])
            replace hK : ∀ (uu : Value) (w' : World), Below wx.heap.size wx w' → ((Gd w m room fuse false A cap qs)) w' → eqV (.bool true) uu w' → K _ w' := hK
            simp only [Act.put, List.setIfInBounds_toArray, List.set_cons_zero, List.set_cons_succ, e10, e20] at hK ⊢
            have HK := Lib.hid hK
            have HG := Lib.hid hG
            clear hK hd e10 e20
            clear hG
            go_simp
            exact HK.out _ _ (Below.refl _ _) HG.out rfl
        case hend =>
          intro vs wx hG hv
          have e21 := hv 21 (by decide)
          replace e21 : vs 21 = .bool true := e21
          rw [e21]
          have HG := Lib.hid hG
          clear hv e21 hG
          have HR := Lib.hid (RD.turned (a' := ⟨room, fuse, false, qs.map Rq.x⟩) HB.out HG.out.k rfl (Tn.ofNew HG.out.bel) (fun _ h => .inl h) 4)
          clear HG
          go_wp2_with fail
          go_ret
          exact HR.out
      rw [if_neg hfull] at hr
      by_cases hmany : 1024 ≤ qs.length
      · rw [if_pos ⟨rfl, by simpa using hmany⟩] at hr
        cases hr
        have b9 : decide (room - S < (p.length : Int)) = false := by simpa using hfull
        have hpb : p.length ≤ 67108864 := by omega
        have b19 : decide ((1024 : Int) ≤ (qs.length : Int)) = true := by simp; omega
        clear hf hh hf1 hf2
        go_enter Try.func20, Try.ntmps20
        go_wp2_with fail
        go_at_call 40
        refine HF.out.mono ?_
        rintro _ w9 ⟨rfl, hw9⟩
        replace hw9 := hw9.symm
        subst hw9
        go_wp2_with fail
        apply region_V eqV (Gd w m room fuse false A cap qs) [.slice PA p.length pc, .int .i64 (p.length : Int), .pointer (some ⟨m, 0, none⟩), .pointer (some ⟨m, 0, none⟩), .pointer (some ⟨m, 0, none⟩), .int .i64 room, .pointer (some ⟨m, 0, none⟩), .int .i64 (S : Int), .int .i64 (room - S), .bool false, .bool false, .int .i64 (-1), .bool true, .bool true, .pointer (some ⟨m, 0, none⟩), .pointer (some ⟨m, 0, none⟩), .pointer (some ⟨m, 1, none⟩), .slice A qs.length cap, .int .i64 (qs.length : Int), .bool true, .bool true, .bool true] (undef)
        case mono => exact fun p v w0 w9 h hb => h
        case hm => kernel_rfl
        case hf => kernel_rfl
        case hQ => exact (by intro c x y w e h; exact And.intro (e.symm.trans (And.left h)) (And.right h))
        case hF => intro vs; simp only [putAll, Act.put, List.setIfInBounds_toArray, List.set_cons_zero, List.set_cons_succ, Nat.reduceAdd]; rfl
        case h0 => exact ⟨HD.out.below ⟨rfl, rfl, rfl, Nat.le_refl _, fun _ _ => rfl⟩, ⟨rfl, rfl, rfl, Nat.le_refl _, fun _ _ => rfl⟩⟩
        case hstep =>
          repeat' (first | exact AllOps.nil | apply AllOps.cons)
          · intro vs wx hG hd K hK
            replace hK : ∀ (uu : Value) (w' : World), Below wx.heap.size wx w' → ((Gd w m room fuse false A cap qs)) w' → eqV (.slice PA p.length pc) uu w' → K _ w' := hK
            simp only [Act.put, List.setIfInBounds_toArray, List.set_cons_zero, List.set_cons_succ] at hK ⊢
            have HK := Lib.hid hK
            have HG := Lib.hid hG
            clear hK hd
            clear hG
            go_simp
            exact HK.out _ _ (Below.refl _ _) HG.out rfl
          · intro vs wx hG hd K hK
            have e0 : vs 0 = .slice PA p.length pc := hd.get (j := 0) (by simp [depsOf, Region.binds])
            replace hK : ∀ (uu : Value) (w' : World), Below wx.heap.size wx w' → ((Gd w m room fuse false A cap qs)) w' → eqV (.int .i64 (p.length : Int)) uu w' → K _ w' := hK
            simp only [Act.put, List.setIfInBounds_toArray, List.set_cons_zero, List.set_cons_succ, e0] at hK ⊢
            have HK := Lib.hid hK
            have HG := Lib.hid hG
            clear hK hd e0
            clear hG
            go_simp
            exact HK.out _ _ (Below.refl _ _) HG.out rfl
          · intro vs wx hG hd K hK
            replace hK : ∀ (uu : Value) (w' : World), Below wx.heap.size wx w' → ((Gd w m room fuse false A cap qs)) w' → eqV (.pointer (some ⟨m, 0, none⟩)) uu w' → K _ w' := hK
            simp only [Act.put, List.setIfInBounds_toArray, List.set_cons_zero, List.set_cons_succ] at hK ⊢
            have HK := Lib.hid hK
            have HG := Lib.hid hG
            clear hK hd
            clear hG
            go_simp
            exact HK.out _ _ (Below.refl _ _) HG.out rfl
          · intro vs wx hG hd K hK
            have e2 : vs 2 = .pointer (some ⟨m, 0, none⟩) := hd.get (j := 2) (by simp [depsOf, Region.binds])
            replace hK : ∀ (uu : Value) (w' : World), Below wx.heap.size wx w' → ((Gd w m room fuse false A cap qs)) w' → eqV (.pointer (some ⟨m, 0, none⟩)) uu w' → K _ w' := hK
            simp only [Act.put, List.setIfInBounds_toArray, List.set_cons_zero, List.set_cons_succ, e2] at hK ⊢
            have HK := Lib.hid hK
            have HG := Lib.hid hG
            clear hK hd e2
            clear hG
            go_simp
            exact HK.out _ _ (Below.refl _ _) HG.out rfl
          · intro vs wx hG hd K hK
            have e3 : vs 3 = .pointer (some ⟨m, 0, none⟩) := hd.get (j := 3) (by simp [depsOf, Region.binds])
            replace hK : ∀ (uu : Value) (w' : World), Below wx.heap.size wx w' → ((Gd w m room fuse false A cap qs)) w' → eqV (.pointer (some ⟨m, 0, none⟩)) uu w' → K _ w' := hK
            simp only [Act.put, List.setIfInBounds_toArray, List.set_cons_zero, List.set_cons_succ, e3] at hK ⊢
            have HK := Lib.hid hK
            have HG := Lib.hid hG
            clear hK hd e3
            clear hG
            go_simp
            exact HK.out _ _ (Below.refl _ _) HG.out rfl
          · intro vs wx hG hd K hK
            have e4 : vs 4 = .pointer (some ⟨m, 0, none⟩) := hd.get (j := 4) (by simp [depsOf, Region.binds])
            replace hK : ∀ (uu : Value) (w' : World), Below wx.heap.size wx w' → ((Gd w m room fuse false A cap qs)) w' → eqV (.int .i64 room) uu w' → K _ w' := hK
            simp only [Act.put, List.setIfInBounds_toArray, List.set_cons_zero, List.set_cons_succ, e4] at hK ⊢
            have HK := Lib.hid hK
            have HG := Lib.hid hG
            clear hK hd e4
            have gc0 := HG.out.k.c0
            have gc1 := HG.out.c1
            clear hG
            go_simp
            exact HK.out _ _ (Below.refl _ _) HG.out rfl
          · intro vs wx hG hd K hK
            replace hK : ∀ (uu : Value) (w' : World), Below wx.heap.size wx w' → ((Gd w m room fuse false A cap qs)) w' → eqV (.pointer (some ⟨m, 0, none⟩)) uu w' → K _ w' := hK
            simp only [Act.put, List.setIfInBounds_toArray, List.set_cons_zero, List.set_cons_succ] at hK ⊢
            have HK := Lib.hid hK
            have HG := Lib.hid hG
            clear hK hd
            clear hG
            go_simp
            exact HK.out _ _ (Below.refl _ _) HG.out rfl
          · intro vs wx hG hd K hK
            have e6 : vs 6 = .pointer (some ⟨m, 0, none⟩) := hd.get (j := 6) (by simp [depsOf, Region.binds])
            replace hK : ∀ (uu : Value) (w' : World), Below wx.heap.size wx w' → ((Gd w m room fuse false A cap qs)) w' → eqV (.int .i64 (S : Int)) uu w' → K _ w' := hK
            simp only [Act.put, List.setIfInBounds_toArray, List.set_cons_zero, List.set_cons_succ, e6] at hK ⊢
            have HK := Lib.hid hK
            have HG := Lib.hid hG
            clear hK hd e6
            clear hG
            go_simp
            go_at_call 36
            refine (HU.out _ HG.out.k).mono ?_
            rintro e w9 ⟨rfl, hb⟩
            exact HK.out _ _ hb (HG.out.below hb) rfl
          · intro vs wx hG hd K hK
            have e5 : vs 5 = .int .i64 room := hd.get (j := 5) (by simp [depsOf, Region.binds])
            have e7 : vs 7 = .int .i64 (S : Int) := hd.get (j := 7) (by simp [depsOf, Region.binds])
            replace hK : ∀ (uu : Value) (w' : World), Below wx.heap.size wx w' → ((Gd w m room fuse false A cap qs)) w' → eqV (.int .i64 (room - S)) uu w' → K _ w' := hK
            simp only [Act.put, List.setIfInBounds_toArray, List.set_cons_zero, List.set_cons_succ, e5, e7] at hK ⊢
            have HK := Lib.hid hK
            have HG := Lib.hid hG
            clear hK hd e5 e7
            clear hG
            go_simp
            exact HK.out _ _ (Below.refl _ _) HG.out rfl
          · intro vs wx hG hd K hK
            have e1 : vs 1 = .int .i64 (p.length : Int) := hd.get (j := 1) (by simp [depsOf, Region.binds])
            have e8 : vs 8 = .int .i64 (room - S) := hd.get (j := 8) (by simp [depsOf, Region.binds])
            replace hK : ∀ (uu : Value) (w' : World), Below wx.heap.size wx w' → ((Gd w m room fuse false A cap qs)) w' → eqV (.bool false) uu w' → K _ w' := hK
            simp only [Act.put, List.setIfInBounds_toArray, List.set_cons_zero, List.set_cons_succ, e1, e8] at hK ⊢
            have HK := Lib.hid hK
            have HG := Lib.hid hG
            clear hK hd e1 e8
            clear hG
            go_simp
            exact HK.out _ _ (Below.refl _ _) HG.out rfl
          · intro vs wx hG hd K hK
            have e9 : vs 9 = .bool false := hd.get (j := 9) (by simp [depsOf, Region.binds])
            replace hK : ∀ (uu : Value) (w' : World), Below wx.heap.size wx w' → ((Gd w m room fuse false A cap qs)) w' → eqV (.bool false) uu w' → K _ w' := hK
            simp only [Act.put, List.setIfInBounds_toArray, List.set_cons_zero, List.set_cons_succ, e9] at hK ⊢
            have HK := Lib.hid hK
            have HG := Lib.hid hG
            clear hK hd e9
            clear hG
            go_simp
            exact HK.out _ _ (Below.refl _ _) HG.out rfl
          · intro vs wx hG hd K hK
            have e10 : vs 10 = .bool false := hd.get (j := 10) (by simp [depsOf, Region.binds])
            replace hK : ∀ (uu : Value) (w' : World), Below wx.heap.size wx w' → ((Gd w m room fuse false A cap qs)) w' → eqV (.int .i64 (-1)) uu w' → K _ w' := hK
            simp only [Act.put, List.setIfInBounds_toArray, List.set_cons_zero, List.set_cons_succ, e10] at hK ⊢
            have HK := Lib.hid hK
            have HG := Lib.hid hG
            clear hK hd e10
            clear hG
            go_simp
            exact HK.out _ _ (Below.refl _ _) HG.out rfl
          · intro vs wx hG hd K hK
            have e10 : vs 10 = .bool false := hd.get (j := 10) (by simp [depsOf, Region.binds])
            have e11 : vs 11 = .int .i64 (-1) := hd.get (j := 11) (by simp [depsOf, Region.binds])
            replace hK : ∀ (uu : Value) (w' : World), Below wx.heap.size wx w' → ((Gd w m room fuse false A cap qs)) w' → eqV (.bool true) uu w' → K _ w' := hK
            simp only [Act.put, List.setIfInBounds_toArray, List.set_cons_zero, List.set_cons_succ, e10, e11] at hK ⊢
            have HK := Lib.hid hK
            have HG := Lib.hid hG
            clear hK hd e10 e11
            clear hG
            go_simp
            exact HK.out _ _ (Below.refl _ _) HG.out rfl
          · intro vs wx hG hd K hK
            have e10 : vs 10 = .bool false := hd.get (j := 10) (by simp [depsOf, Region.binds])
            have e12 : vs 12 = .bool true := hd.get (j := 12) (by simp [depsOf, Region.binds])
            replace hK : ∀ (uu : Value) (w' : World), Below wx.heap.size wx w' → ((Gd w m room fuse false A cap qs)) w' → eqV (.bool true) uu w' → K _ w' := hK
            simp only [Act.put, List.setIfInBounds_toArray, List.set_cons_zero, List.set_cons_succ, e10, e12] at hK ⊢
            have HK := Lib.hid hK
            have HG := Lib.hid hG
            clear hK hd e10 e12
            clear hG
            go_simp
            exact HK.out _ _ (Below.refl _ _) HG.out rfl
          · intro vs wx hG hd K hK
            have e13 : vs 13 = .bool true := hd.get (j := 13) (by simp [depsOf, Region.binds])
            replace hK : ∀ (uu : Value) (w' : World), Below wx.heap.size wx w' → ((Gd w m room fuse false A cap qs)) w' → eqV (.pointer (some ⟨m, 0, none⟩)) uu w' → K _ w' := hK
            simp only [Act.put, List.setIfInBounds_toArray, List.set_cons_zero, List.set_cons_succ, e13] at hK ⊢
            have HK := Lib.hid hK
            have HG := Lib.hid hG
            clear hK hd e13
            clear hG
            go_simp
            exact HK.out _ _ (Below.refl _ _) HG.out rfl
          · intro vs wx hG hd K hK
            have e13 : vs 13 = .bool true := hd.get (j := 13) (by simp [depsOf, Region.binds])
            have e14 : vs 14 = .pointer (some ⟨m, 0, none⟩) := hd.get (j := 14) (by simp [depsOf, Region.binds])
            replace hK : ∀ (uu : Value) (w' : World), Below wx.heap.size wx w' → ((Gd w m room fuse false A cap qs)) w' → eqV (.pointer (some ⟨m, 0, none⟩)) uu w' → K _ w' := hK
            simp only [Act.put, List.setIfInBounds_toArray, List.set_cons_zero, List.set_cons_succ, e13, e14] at hK ⊢
            have HK := Lib.hid hK
            have HG := Lib.hid hG
            clear hK hd e13 e14
            clear hG
            go_simp
            exact HK.out _ _ (Below.refl _ _) HG.out rfl
          · intro vs wx hG hd K hK
            have e13 : vs 13 = .bool true := hd.get (j := 13) (by simp [depsOf, Region.binds])
            have e15 : vs 15 = .pointer (some ⟨m, 0, none⟩) := hd.get (j := 15) (by simp [depsOf, Region.binds])
            replace hK : ∀ (uu : Value) (w' : World), Below wx.heap.size wx w' → ((Gd w m room fuse false A cap qs)) w' → eqV (.pointer (some ⟨m, 1, none⟩)) uu w' → K _ w' := hK
            simp only [Act.put, List.setIfInBounds_toArray, List.set_cons_zero, List.set_cons_succ, e13, e15] at hK ⊢
            have HK := Lib.hid hK
            have HG := Lib.hid hG
            clear hK hd e13 e15
            clear hG
            go_simp
            exact HK.out _ _ (Below.refl _ _) HG.out rfl
          · intro vs wx hG hd K hK
            have e13 : vs 13 = .bool true := hd.get (j := 13) (by simp [depsOf, Region.binds])
            have e16 : vs 16 = .pointer (some ⟨m, 1, none⟩) := hd.get (j := 16) (by simp [depsOf, Region.binds])
            replace hK : ∀ (uu : Value) (w' : World), Below wx.heap.size wx w' → ((Gd w m room fuse false A cap qs)) w' → eqV (.slice A qs.length cap) uu w' → K _ w' := hK
            simp only [Act.put, List.setIfInBounds_toArray, List.set_cons_zero, List.set_cons_succ, e13, e16] at hK ⊢
            have HK := Lib.hid hK
            have HG := Lib.hid hG
            clear hK hd e13 e16
            have gc0 := HG.out.k.c0
            have gc1 := HG.out.c1
            clear hG
            go_simp
            exact HK.out _ _ (Below.refl _ _) HG.out rfl
          · intro vs wx hG hd K hK
            have e13 : vs 13 = .bool true := hd.get (j := 13) (by simp [depsOf, Region.binds])
            have e17 : vs 17 = .slice A qs.length cap := hd.get (j := 17) (by simp [depsOf, Region.binds])
            replace hK : ∀ (uu : Value) (w' : World), Below wx.heap.size wx w' → ((Gd w m room fuse false A cap qs)) w' → eqV (.int .i64 (qs.length : Int)) uu w' → K _ w' := hK
            simp only [Act.put, List.setIfInBounds_toArray, List.set_cons_zero, List.set_cons_succ, e13, e17] at hK ⊢
            have HK := Lib.hid hK
            have HG := Lib.hid hG
            clear hK hd e13 e17
            clear hG
            go_simp
            exact HK.out _ _ (Below.refl _ _) HG.out rfl
          · intro vs wx hG hd K hK
            have e13 : vs 13 = .bool true := hd.get (j := 13) (by simp [depsOf, Region.binds])
            have e18 : vs 18 = .int .i64 (qs.length : Int) := hd.get (j := 18) (by simp [depsOf, Region.binds])
            replace hK : ∀ (uu : Value) (w' : World), Below wx.heap.size wx w' → ((Gd w m room fuse false A cap qs)) w' → eqV (.bool true) uu w' → K _ w' := hK
            simp only [Act.put, List.setIfInBounds_toArray, List.set_cons_zero, List.set_cons_succ, e13, e18] at hK ⊢
            have HK := Lib.hid hK
            have HG := Lib.hid hG
            clear hK hd e13 e18
            clear hG
            go_simp
            exact HK.out _ _ (Below.refl _ _) HG.out rfl
          · intro vs wx hG hd K hK
            have e10 : vs 10 = .bool false := hd.get (j := 10) (by simp [depsOf, Region.binds])
            have e13 : vs 13 = .bool true := hd.get (j := 13) (by simp [depsOf, Region.binds])
            have e19 : vs 19 = .bool true := hd.get (j := 19) (by simp [depsOf, Region.binds])
            replace hK : ∀ (uu : Value) (w' : World), Below wx.heap.size wx w' → ((Gd w m room fuse false A cap qs)) w' → eqV (.bool true) uu w' → K _ w' := hK
            simp only [Act.put, List.setIfInBounds_toArray, List.set_cons_zero, List.set_cons_succ, e10, e13, e19] at hK ⊢
            have HK := Lib.hid hK
            have HG := Lib.hid hG
            clear hK hd e10 e13 e19
            clear hG
            go_simp
            exact HK.out _ _ (Below.refl _ _) HG.out rfl
          · intro vs wx hG hd K hK
            have e10 : vs 10 = .bool false := hd.get (j := 10) (by simp [depsOf, Region.binds])
            have e20 : vs 20 = .bool true := hd.get (j := 20) (by simp [depsOf, Region.binds])
            replace hK : ∀ (uu : Value) (w' : World), Below wx.heap.size wx w' → ((Gd w m room fuse false A cap qs)) w' → eqV (.bool true) uu w' → K _ w' := hK
            simp only [Act.put, List.setIfInBounds_toArray, List.set_cons_zero, List.set_cons_succ, e10, e20] at hK ⊢
            have HK := Lib.hid hK
            have HG := Lib.hid hG
            clear hK hd e10 e20
            clear hG
            go_simp
            exact HK.out _ _ (Below.refl _ _) HG.out rfl
        case hend =>
          intro vs wx hG hv
          have e21 := hv 21 (by decide)
          replace e21 : vs 21 = .bool true := e21
          rw [e21]
          have HG := Lib.hid hG
          clear hv e21 hG
          have HR := Lib.hid (RD.turned (a' := ⟨room, fuse, false, qs.map Rq.x⟩) HB.out HG.out.k rfl (Tn.ofNew HG.out.bel) (fun _ h => .inl h) 4)
          clear HG
          go_wp2_with fail
          go_ret
          exact HR.out
      rw [if_neg (fun h => hmany (by simpa using h.2))] at hr
      have HNO : Hid (∀ k (h : k < qs.length), qs[k].x.n ≠ n) := Lib.hid fun k h e => by
        have : hasA (qs.map Rq.x) n = true := by
          unfold hasA
          rw [List.any_eq_true]
          exact ⟨qs[k].x, List.mem_map.2 ⟨_, List.getElem_mem h, rfl⟩, by simpa using e⟩
        rw [hh] at this
        cases this
      have b9 : decide (room - S < (p.length : Int)) = false := by simpa using hfull
      have hpb : p.length ≤ 67108864 := by omega
      have b19 : decide ((1024 : Int) ≤ (qs.length : Int)) = false := by simp; omega
      clear hf hh
      go_enter Try.func20, Try.ntmps20
      go_wp2_with fail
      go_at_call 40
      refine HF.out.mono ?_
      rintro _ w9 ⟨rfl, hw9⟩
      replace hw9 := hw9.symm
      subst hw9
      go_wp2_with fail
      apply region_V eqV (Gd w m room fuse false A cap qs) [.slice PA p.length pc, .int .i64 (p.length : Int), .pointer (some ⟨m, 0, none⟩), .pointer (some ⟨m, 0, none⟩), .pointer (some ⟨m, 0, none⟩), .int .i64 room, .pointer (some ⟨m, 0, none⟩), .int .i64 (S : Int), .int .i64 (room - S), .bool false, .bool false, .int .i64 (-1), .bool true, .bool true, .pointer (some ⟨m, 0, none⟩), .pointer (some ⟨m, 0, none⟩), .pointer (some ⟨m, 1, none⟩), .slice A qs.length cap, .int .i64 (qs.length : Int), .bool false, .bool false, .bool false] (undef)
      case mono => exact fun p v w0 w9 h hb => h
      case hm => kernel_rfl
      case hf => kernel_rfl
      case hQ => exact (by intro c x y w e h; exact And.intro (e.symm.trans (And.left h)) (And.right h))
      case hF => intro vs; simp only [putAll, Act.put, List.setIfInBounds_toArray, List.set_cons_zero, List.set_cons_succ, Nat.reduceAdd]; rfl
      case h0 => exact ⟨HD.out.below ⟨rfl, rfl, rfl, Nat.le_refl _, fun _ _ => rfl⟩, ⟨rfl, rfl, rfl, Nat.le_refl _, fun _ _ => rfl⟩⟩
      case hstep =>
        repeat' (first | exact AllOps.nil | apply AllOps.cons)
        · intro vs wx hG hd K hK
          replace hK : ∀ (uu : Value) (w' : World), Below wx.heap.size wx w' → ((Gd w m room fuse false A cap qs)) w' → eqV (.slice PA p.length pc) uu w' → K _ w' := hK
          simp only [Act.put, List.setIfInBounds_toArray, List.set_cons_zero, List.set_cons_succ] at hK ⊢
          have HK := Lib.hid hK
          have HG := Lib.hid hG
          clear hK hd
          clear hG
          go_simp
          exact HK.out _ _ (Below.refl _ _) HG.out rfl
        · intro vs wx hG hd K hK
          have e0 : vs 0 = .slice PA p.length pc := hd.get (j := 0) (by simp [depsOf, Region.binds])
          replace hK : ∀ (uu : Value) (w' : World), Below wx.heap.size wx w' → ((Gd w m room fuse false A cap qs)) w' → eqV (.int .i64 (p.length : Int)) uu w' → K _ w' := hK
          simp only [Act.put, List.setIfInBounds_toArray, List.set_cons_zero, List.set_cons_succ, e0] at hK ⊢
          have HK := Lib.hid hK
          have HG := Lib.hid hG
          clear hK hd e0
          clear hG
          go_simp
          exact HK.out _ _ (Below.refl _ _) HG.out rfl
        · intro vs wx hG hd K hK
          replace hK : ∀ (uu : Value) (w' : World), Below wx.heap.size wx w' → ((Gd w m room fuse false A cap qs)) w' → eqV (.pointer (some ⟨m, 0, none⟩)) uu w' → K _ w' := hK
          simp only [Act.put, List.setIfInBounds_toArray, List.set_cons_zero, List.set_cons_succ] at hK ⊢
          have HK := Lib.hid hK
          have HG := Lib.hid hG
          clear hK hd
          clear hG
          go_simp
          exact HK.out _ _ (Below.refl _ _) HG.out rfl
        · intro vs wx hG hd K hK
          have e2 : vs 2 = .pointer (some ⟨m, 0, none⟩) := hd.get (j := 2) (by simp [depsOf, Region.binds])
          replace hK : ∀ (uu : Value) (w' : World), Below wx.heap.size wx w' → ((Gd w m room fuse false A cap qs)) w' → eqV (.pointer (some ⟨m, 0, none⟩)) uu w' → K _ w' := hK
          simp only [Act.put, List.setIfInBounds_toArray, List.set_cons_zero, List.set_cons_succ, e2] at hK ⊢
          have HK := Lib.hid hK
          have HG := Lib.hid hG
          clear hK hd e2
          clear hG
          go_simp
          exact HK.out _ _ (Below.refl _ _) HG.out rfl
        · intro vs wx hG hd K hK
          have e3 : vs 3 = .pointer (some ⟨m, 0, none⟩) := hd.get (j := 3) (by simp [depsOf, Region.binds])
          replace hK : ∀ (uu : Value) (w' : World), Below wx.heap.size wx w' → ((Gd w m room fuse false A cap qs)) w' → eqV (.pointer (some ⟨m, 0, none⟩)) uu w' → K _ w' := hK
          simp only [Act.put, List.setIfInBounds_toArray, List.set_cons_zero, List.set_cons_succ, e3] at hK ⊢
          have HK := Lib.hid hK
          have HG := Lib.hid hG
          clear hK hd e3
          clear hG
          go_simp
          exact HK.out _ _ (Below.refl _ _) HG.out rfl
        · intro vs wx hG hd K hK
          have e4 : vs 4 = .pointer (some ⟨m, 0, none⟩) := hd.get (j := 4) (by simp [depsOf, Region.binds])
          replace hK : ∀ (uu : Value) (w' : World), Below wx.heap.size wx w' → ((Gd w m room fuse false A cap qs)) w' → eqV (.int .i64 room) uu w' → K _ w' := hK
          simp only [Act.put, List.setIfInBounds_toArray, List.set_cons_zero, List.set_cons_succ, e4] at hK ⊢
          have HK := Lib.hid hK
          have HG := Lib.hid hG
          clear hK hd e4
          have gc0 := HG.out.k.c0
          have gc1 := HG.out.c1
          clear hG
          go_simp
          exact HK.out _ _ (Below.refl _ _) HG.out rfl
        · intro vs wx hG hd K hK
          replace hK : ∀ (uu : Value) (w' : World), Below wx.heap.size wx w' → ((Gd w m room fuse false A cap qs)) w' → eqV (.pointer (some ⟨m, 0, none⟩)) uu w' → K _ w' := hK
          simp only [Act.put, List.setIfInBounds_toArray, List.set_cons_zero, List.set_cons_succ] at hK ⊢
          have HK := Lib.hid hK
          have HG := Lib.hid hG
          clear hK hd
          clear hG
          go_simp
          exact HK.out _ _ (Below.refl _ _) HG.out rfl
        · intro vs wx hG hd K hK
          have e6 : vs 6 = .pointer (some ⟨m, 0, none⟩) := hd.get (j := 6) (by simp [depsOf, Region.binds])
          replace hK : ∀ (uu : Value) (w' : World), Below wx.heap.size wx w' → ((Gd w m room fuse false A cap qs)) w' → eqV (.int .i64 (S : Int)) uu w' → K _ w' := hK
          simp only [Act.put, List.setIfInBounds_toArray, List.set_cons_zero, List.set_cons_succ, e6] at hK ⊢
          have HK := Lib.hid hK
          have HG := Lib.hid hG
          clear hK hd e6
          clear hG
          go_simp
          go_at_call 36
          refine (HU.out _ HG.out.k).mono ?_
          rintro e w9 ⟨rfl, hb⟩
          exact HK.out _ _ hb (HG.out.below hb) rfl
        · intro vs wx hG hd K hK
          have e5 : vs 5 = .int .i64 room := hd.get (j := 5) (by simp [depsOf, Region.binds])
          have e7 : vs 7 = .int .i64 (S : Int) := hd.get (j := 7) (by simp [depsOf, Region.binds])
          replace hK : ∀ (uu : Value) (w' : World), Below wx.heap.size wx w' → ((Gd w m room fuse false A cap qs)) w' → eqV (.int .i64 (room - S)) uu w' → K _ w' := hK
          simp only [Act.put, List.setIfInBounds_toArray, List.set_cons_zero, List.set_cons_succ, e5, e7] at hK ⊢
          have HK := Lib.hid hK
          have HG := Lib.hid hG
          clear hK hd e5 e7
          clear hG
          go_simp
          exact HK.out _ _ (Below.refl _ _) HG.out rfl
        · intro vs wx hG hd K hK
          have e1 : vs 1 = .int .i64 (p.length : Int) := hd.get (j := 1) (by simp [depsOf, Region.binds])
          have e8 : vs 8 = .int .i64 (room - S) := hd.get (j := 8) (by simp [depsOf, Region.binds])
          replace hK : ∀ (uu : Value) (w' : World), Below wx.heap.size wx w' → ((Gd w m room fuse false A cap qs)) w' → eqV (.bool false) uu w' → K _ w' := hK
          simp only [Act.put, List.setIfInBounds_toArray, List.set_cons_zero, List.set_cons_succ, e1, e8] at hK ⊢
          have HK := Lib.hid hK
          have HG := Lib.hid hG
          clear hK hd e1 e8
          clear hG
          go_simp
          exact HK.out _ _ (Below.refl _ _) HG.out rfl
        · intro vs wx hG hd K hK
          have e9 : vs 9 = .bool false := hd.get (j := 9) (by simp [depsOf, Region.binds])
          replace hK : ∀ (uu : Value) (w' : World), Below wx.heap.size wx w' → ((Gd w m room fuse false A cap qs)) w' → eqV (.bool false) uu w' → K _ w' := hK
          simp only [Act.put, List.setIfInBounds_toArray, List.set_cons_zero, List.set_cons_succ, e9] at hK ⊢
          have HK := Lib.hid hK
          have HG := Lib.hid hG
          clear hK hd e9
          clear hG
          go_simp
          exact HK.out _ _ (Below.refl _ _) HG.out rfl
        · intro vs wx hG hd K hK
          have e10 : vs 10 = .bool false := hd.get (j := 10) (by simp [depsOf, Region.binds])
          replace hK : ∀ (uu : Value) (w' : World), Below wx.heap.size wx w' → ((Gd w m room fuse false A cap qs)) w' → eqV (.int .i64 (-1)) uu w' → K _ w' := hK
          simp only [Act.put, List.setIfInBounds_toArray, List.set_cons_zero, List.set_cons_succ, e10] at hK ⊢
          have HK := Lib.hid hK
          have HG := Lib.hid hG
          clear hK hd e10
          clear hG
          go_simp
          exact HK.out _ _ (Below.refl _ _) HG.out rfl
        · intro vs wx hG hd K hK
          have e10 : vs 10 = .bool false := hd.get (j := 10) (by simp [depsOf, Region.binds])
          have e11 : vs 11 = .int .i64 (-1) := hd.get (j := 11) (by simp [depsOf, Region.binds])
          replace hK : ∀ (uu : Value) (w' : World), Below wx.heap.size wx w' → ((Gd w m room fuse false A cap qs)) w' → eqV (.bool true) uu w' → K _ w' := hK
          simp only [Act.put, List.setIfInBounds_toArray, List.set_cons_zero, List.set_cons_succ, e10, e11] at hK ⊢
          have HK := Lib.hid hK
          have HG := Lib.hid hG
          clear hK hd e10 e11
          clear hG
          go_simp
          exact HK.out _ _ (Below.refl _ _) HG.out rfl
        · intro vs wx hG hd K hK
          have e10 : vs 10 = .bool false := hd.get (j := 10) (by simp [depsOf, Region.binds])
          have e12 : vs 12 = .bool true := hd.get (j := 12) (by simp [depsOf, Region.binds])
          replace hK : ∀ (uu : Value) (w' : World), Below wx.heap.size wx w' → ((Gd w m room fuse false A cap qs)) w' → eqV (.bool true) uu w' → K _ w' := hK
          simp only [Act.put, List.setIfInBounds_toArray, List.set_cons_zero, List.set_cons_succ, e10, e12] at hK ⊢
          have HK := Lib.hid hK
          have HG := Lib.hid hG
          clear hK hd e10 e12
          clear hG
          go_simp
          exact HK.out _ _ (Below.refl _ _) HG.out rfl
        · intro vs wx hG hd K hK
          have e13 : vs 13 = .bool true := hd.get (j := 13) (by simp [depsOf, Region.binds])
          replace hK : ∀ (uu : Value) (w' : World), Below wx.heap.size wx w' → ((Gd w m room fuse false A cap qs)) w' → eqV (.pointer (some ⟨m, 0, none⟩)) uu w' → K _ w' := hK
          simp only [Act.put, List.setIfInBounds_toArray, List.set_cons_zero, List.set_cons_succ, e13] at hK ⊢
          have HK := Lib.hid hK
          have HG := Lib.hid hG
          clear hK hd e13
          clear hG
          go_simp
          exact HK.out _ _ (Below.refl _ _) HG.out rfl
        · intro vs wx hG hd K hK
          have e13 : vs 13 = .bool true := hd.get (j := 13) (by simp [depsOf, Region.binds])
          have e14 : vs 14 = .pointer (some ⟨m, 0, none⟩) := hd.get (j := 14) (by simp [depsOf, Region.binds])
          replace hK : ∀ (uu : Value) (w' : World), Below wx.heap.size wx w' → ((Gd w m room fuse false A cap qs)) w' → eqV (.pointer (some ⟨m, 0, none⟩)) uu w' → K _ w' := hK
          simp only [Act.put, List.setIfInBounds_toArray, List.set_cons_zero, List.set_cons_succ, e13, e14] at hK ⊢
          have HK := Lib.hid hK
          have HG := Lib.hid hG
          clear hK hd e13 e14
          clear hG
          go_simp
          exact HK.out _ _ (Below.refl _ _) HG.out rfl
        · intro vs wx hG hd K hK
          have e13 : vs 13 = .bool true := hd.get (j := 13) (by simp [depsOf, Region.binds])
          have e15 : vs 15 = .pointer (some ⟨m, 0, none⟩) := hd.get (j := 15) (by simp [depsOf, Region.binds])
          replace hK : ∀ (uu : Value) (w' : World), Below wx.heap.size wx w' → ((Gd w m room fuse false A cap qs)) w' → eqV (.pointer (some ⟨m, 1, none⟩)) uu w' → K _ w' := hK
          simp only [Act.put, List.setIfInBounds_toArray, List.set_cons_zero, List.set_cons_succ, e13, e15] at hK ⊢
          have HK := Lib.hid hK
          have HG := Lib.hid hG
          clear hK hd e13 e15
          clear hG
          go_simp
          exact HK.out _ _ (Below.refl _ _) HG.out rfl
        · intro vs wx hG hd K hK
          have e13 : vs 13 = .bool true := hd.get (j := 13) (by simp [depsOf, Region.binds])
          have e16 : vs 16 = .pointer (some ⟨m, 1, none⟩) := hd.get (j := 16) (by simp [depsOf, Region.binds])
          replace hK : ∀ (uu : Value) (w' : World), Below wx.heap.size wx w' → ((Gd w m room fuse false A cap qs)) w' → eqV (.slice A qs.length cap) uu w' → K _ w' := hK
          simp only [Act.put, List.setIfInBounds_toArray, List.set_cons_zero, List.set_cons_succ, e13, e16] at hK ⊢
          have HK := Lib.hid hK
          have HG := Lib.hid hG
          clear hK hd e13 e16
          have gc0 := HG.out.k.c0
          have gc1 := HG.out.c1
          clear hG
          go_simp
          exact HK.out _ _ (Below.refl _ _) HG.out rfl
        · intro vs wx hG hd K hK
          have e13 : vs 13 = .bool true := hd.get (j := 13) (by simp [depsOf, Region.binds])
          have e17 : vs 17 = .slice A qs.length cap := hd.get (j := 17) (by simp [depsOf, Region.binds])
          replace hK : ∀ (uu : Value) (w' : World), Below wx.heap.size wx w' → ((Gd w m room fuse false A cap qs)) w' → eqV (.int .i64 (qs.length : Int)) uu w' → K _ w' := hK
          simp only [Act.put, List.setIfInBounds_toArray, List.set_cons_zero, List.set_cons_succ, e13, e17] at hK ⊢
          have HK := Lib.hid hK
          have HG := Lib.hid hG
          clear hK hd e13 e17
          clear hG
          go_simp
          exact HK.out _ _ (Below.refl _ _) HG.out rfl
        · intro vs wx hG hd K hK
          have e13 : vs 13 = .bool true := hd.get (j := 13) (by simp [depsOf, Region.binds])
          have e18 : vs 18 = .int .i64 (qs.length : Int) := hd.get (j := 18) (by simp [depsOf, Region.binds])
          replace hK : ∀ (uu : Value) (w' : World), Below wx.heap.size wx w' → ((Gd w m room fuse false A cap qs)) w' → eqV (.bool false) uu w' → K _ w' := hK
          simp only [Act.put, List.setIfInBounds_toArray, List.set_cons_zero, List.set_cons_succ, e13, e18] at hK ⊢
          have HK := Lib.hid hK
          have HG := Lib.hid hG
          clear hK hd e13 e18
          clear hG
          go_simp
          exact HK.out _ _ (Below.refl _ _) HG.out rfl
        · intro vs wx hG hd K hK
          have e10 : vs 10 = .bool false := hd.get (j := 10) (by simp [depsOf, Region.binds])
          have e13 : vs 13 = .bool true := hd.get (j := 13) (by simp [depsOf, Region.binds])
          have e19 : vs 19 = .bool false := hd.get (j := 19) (by simp [depsOf, Region.binds])
          replace hK : ∀ (uu : Value) (w' : World), Below wx.heap.size wx w' → ((Gd w m room fuse false A cap qs)) w' → eqV (.bool false) uu w' → K _ w' := hK
          simp only [Act.put, List.setIfInBounds_toArray, List.set_cons_zero, List.set_cons_succ, e10, e13, e19] at hK ⊢
          have HK := Lib.hid hK
          have HG := Lib.hid hG
          clear hK hd e10 e13 e19
          clear hG
          go_simp
          exact HK.out _ _ (Below.refl _ _) HG.out rfl
        · intro vs wx hG hd K hK
          have e10 : vs 10 = .bool false := hd.get (j := 10) (by simp [depsOf, Region.binds])
          have e20 : vs 20 = .bool false := hd.get (j := 20) (by simp [depsOf, Region.binds])
          replace hK : ∀ (uu : Value) (w' : World), Below wx.heap.size wx w' → ((Gd w m room fuse false A cap qs)) w' → eqV (.bool false) uu w' → K _ w' := hK
          simp only [Act.put, List.setIfInBounds_toArray, List.set_cons_zero, List.set_cons_succ, e10, e20] at hK ⊢
          have HK := Lib.hid hK
          have HG := Lib.hid hG
          clear hK hd e10 e20
          clear hG
          go_simp
          exact HK.out _ _ (Below.refl _ _) HG.out rfl
      case hend =>
        intro vs wx hG hv
        have e21 := hv 21 (by decide)
        replace e21 : vs 21 = .bool false := e21
        rw [e21]
        have HG := Lib.hid hG
        clear hv e21 hG
        by_cases hz : fuse = 0
        · subst hz
          rw [if_pos rfl] at hr
          cases hr
          have HP := Lib.hid (rpow_no HG.out.k)
          go_wp2_with fail
          go_at_call 41
          refine HP.out.mono ?_
          rintro _ w1 ⟨rfl, D1, t1⟩
          have HR := Lib.hid (RD.turned (a' := ⟨room, 0, true, qs.map Rq.x⟩) HB.out D1 rfl ((Tn.ofNew HG.out.bel).then (t1.mono fun _ _ h => .inl h)) (fun _ h => .inl h) 5)
          clear D1 t1 HP HG
          go_wp2_with fail
          go_ret
          exact HR.out
        · rw [if_neg hz] at hr
          cases hr
          have HP := Lib.hid (rpow_yes HG.out.k hz hf1 hf2)
          clear hz
          go_wp2_with fail
          go_at_call 41
          refine HP.out.mono ?_
          rintro _ w1 ⟨rfl, D1, t1⟩
          have HD0 := Lib.hid D1
          have HT1 := Lib.hid ((Tn.ofNew (P := fK m A cap qs) HG.out.bel).then (t1.mono fun _ _ h => .inl h))
          have HPB := Lib.hid (HPX.out w1 HT1.out)
          clear D1 t1 HP HG
          have hle := (HD0.out.so.sr encQ_len).1.le
          have hmx := (HD0.out.so.sr encQ_len).1.max
          unfold maxLen at hmx
          go_wp2_with fail
          go_loopw [8, 9] (fun l jv wr => ∃ (k c : Nat) (B : Option Addr), k ≤ qs.length ∧ jv = .int .i64 (k : Int) ∧ l = .slice B k c ∧ Hid (∀ j (hj : j < qs.length), j < k → qs[j].x.n < n) ∧ Hid (So encQ 4 wr w1.heap.size SG (.slice B k c) (qs.take k)) ∧ Hid (Below w1.heap.size w1 wr)) (fun _ jv _ => qs.length - (intOf jv).toNat)
          case atStart => exact ⟨0, 0, none, Nat.zero_le _, rfl, rfl, Lib.hid (fun _ _ h => absurd h (by omega)), Lib.hid (by simpa using So.empty _ _ _ _ _), Lib.hid (Below.refl _ _)⟩
          case round =>
            obtain ⟨k, c, B, hkl, rfl, rfl, HLT, HSOk, HBLk⟩ := hrel
            rename World => wr
            have z2 : w1.heap.size ≤ wr.heap.size := HBLk.out.size
            have H2 := Lib.hid (HD0.out.below HBLk.out)
            have d1 := H2.out.c1
            by_cases hlt : k < qs.length
            · have j1 : (k : Int) < qs.length := by omega
              obtain ⟨g, hg⟩ := H2.out.addr (by omega)
              rw [hg] at d1
              obtain ⟨us, _⟩ := (hg ▸ H2.out : RK wr m room (fz fuse) false (some ⟨g, 0, none⟩) cap qs).slot (List.getElem?_eq_getElem hlt)
              clear hg
              have HTK := Lib.hid (List.take_succ_eq_append_getElem hlt)
              have HNE := Lib.hid (HNO.out k hlt)
              have HLT2 : Hid (qs[k].x.n < n → ∀ j (hj : j < qs.length), j < k + 1 → qs[j].x.n < n) := Lib.hid fun e j hj hjk => by
                by_cases ej : j = k
                · subst ej; exact e
                · exact HLT.out j hj (by omega)
              have HPN0 : Hid (n < qs[k].x.n → putA n p (qs.map Rq.x) = (qs.map Rq.x).take k ++ ⟨n, p, 0, false⟩ :: (qs.map Rq.x).drop k) := Lib.hid fun e => put_new (by simpa using hkl) (fun j hj hjk => by have := HLT.out j (by simpa using hj) hjk; simpa using this) (fun h => by simpa using e)
              obtain ⟨y, hy⟩ : ∃ y, y = qs[k] := ⟨_, rfl⟩
              rw [← hy] at us HNE HLT2 HPN0
              have HY := Lib.hid hy
              have u0 : wr.cell? ⟨g, k * 4, none⟩ = some (.int .i64 y.x.n) := us 0 _ rfl
              by_cases hyn : y.x.n < n
              · have HLT3 := Lib.hid (HLT2.out hyn)
                have u1 : wr.cell? ⟨g, k * 4 + 1, none⟩ = some (.slice y.A y.x.l y.c) := us 1 _ rfl
                have u2 : wr.cell? ⟨g, k * 4 + 2, none⟩ = some (.slice y.B (y.x.b.length - y.x.l) y.d) := us 2 _ rfl
                have u3 : wr.cell? ⟨g, k * 4 + 3, none⟩ = some (.bool y.x.k) := us 3 _ rfl
                have HL : Hid ((qs.take k).length = k) := Lib.hid (by simp; omega)
                have HSO := HSOk
                have HBL := HBLk
                clear us hy
                go_wp2_with (at_builtin; refine wpList_pushE Try.underlying59 info_sg rfl (by decide) wr rfl (.tmp 68) (.tmp 76) rfl w1.heap.size (.slice B k c) (qs.take k) rfl HSO.out y _ rfl rfl (encQ_one _) _ wr.heap.size rfl rfl (k + 1) (by rw [HL.out]) (by unfold maxLen; omega) (by omega) z2 ?_; intro A2 cap2 w2 hps2 hgrow2 hat2; have B2 : Below w1.heap.size w1 w2 := grown_below HBL.out hgrow2 z2 (fun _ h => (HSO.out.lt _ h).1))
                go_roundw
                case rel => exact ⟨k + 1, cap2, A2, by omega, by go_num, rfl, HLT3, Lib.hid (by rw [HTK.out, ← HY.out]; exact hps2), Lib.hid B2⟩
                case measure => simp [intOf]; omega
              · have hgt : n < y.x.n := by have := HNE.out; omega
                have HPN := Lib.hid (HPN0.out hgt)
                clear us hy HLT2 HPN0 HNE HTK hgt HLT H2
                have HSO := HSOk
                have HBL := HBLk
                have HL : Hid ((qs.take k).length = k) := Lib.hid (by simp; omega)
                have z2 : w1.heap.size ≤ wr.heap.size := HBL.out.size
                go_wp2_with (at_builtin; refine wpList_pushE Try.underlying59 info_sg rfl (by decide) wr rfl (.tmp 80) (.tmp 83) rfl w1.heap.size (.slice B k c) (qs.take k) rfl HSO.out (q0 n) #[.int .i64 n, .slice none 0 0, .slice none 0 0, .bool false] (by simp [encQ, q0]) rfl (encQ_one _) _ wr.heap.size rfl rfl (k + 1) (by rw [HL.out]) (by unfold maxLen; omega) (by omega) z2 ?_; intro A2 cap2 w2 hps2 hgrow2 hat2; have B2 : Below w1.heap.size w1 w2 := grown_below HBL.out hgrow2 z2 (fun _ h => (HSO.out.lt _ h).1))
                have HS2 := Lib.hid hps2
                have HB2 := Lib.hid B2
                clear hps2 B2 hgrow2 hat2 HSO HBL HSOk HBLk HL
                go_wp2_with fail
                go_loopw [8, 10] (fun l jv wr => ∃ (j c : Nat) (B : Option Addr), k ≤ j ∧ j ≤ qs.length ∧ jv = .int .i64 (j : Int) ∧ l = .slice B (j + 1) c ∧ Hid (So encQ 4 wr w1.heap.size SG (.slice B (j + 1) c) (insQ n qs k j)) ∧ Hid (Below w1.heap.size w1 wr)) (fun _ jv _ => qs.length - (intOf jv).toNat)
                case atStart => exact ⟨k, cap2, A2, Nat.le_refl _, hkl, rfl, rfl, Lib.hid (by rw [insQ_start hkl]; exact HS2.out), HB2⟩
                case round =>
                  clear HS2 HB2 z2
                  obtain ⟨j, c, B, hkj, hj, rfl, rfl, HSO, HBL⟩ := hrel
                  rename World => wr
                  have z2 : w1.heap.size ≤ wr.heap.size := HBL.out.size
                  have H2 := Lib.hid (HD0.out.below HBL.out)
                  have d1 := H2.out.c1
                  by_cases hlt : j < qs.length
                  · have j1 : (j : Int) < qs.length := by omega
                    obtain ⟨g, hg⟩ := H2.out.addr (by omega)
                    rw [hg] at d1
                    obtain ⟨us, _⟩ := (hg ▸ H2.out : RK wr m room (fz fuse) false (some ⟨g, 0, none⟩) cap qs).slot (List.getElem?_eq_getElem hlt)
                    have HI := Lib.hid (insQ_next n hkj hlt)
                    have HL := Lib.hid (insQ_len n hkj hj)
                    obtain ⟨y, hy⟩ : ∃ y, y = qs[j] := ⟨_, rfl⟩
                    rw [← hy] at us HI
                    have u0 : wr.cell? ⟨g, j * 4, none⟩ = some (.int .i64 y.x.n) := us 0 _ rfl
                    have u1 : wr.cell? ⟨g, j * 4 + 1, none⟩ = some (.slice y.A y.x.l y.c) := us 1 _ rfl
                    have u2 : wr.cell? ⟨g, j * 4 + 2, none⟩ = some (.slice y.B (y.x.b.length - y.x.l) y.d) := us 2 _ rfl
                    have u3 : wr.cell? ⟨g, j * 4 + 3, none⟩ = some (.bool y.x.k) := us 3 _ rfl
                    clear us hy hg
                    go_wp2_with (at_builtin; refine wpList_pushE Try.underlying59 info_sg rfl (by decide) wr rfl (.tmp 95) (.tmp 103) rfl w1.heap.size (.slice B (j + 1) c) (insQ n qs k j) rfl HSO.out y _ rfl rfl (encQ_one _) _ wr.heap.size rfl rfl (j + 1 + 1) (by rw [HL.out]) (by unfold maxLen; omega) (by omega) z2 ?_; intro A2 cap2 w2 hps2 hgrow2 hat2; have B2 : Below w1.heap.size w1 w2 := grown_below HBL.out hgrow2 z2 (fun _ h => (HSO.out.lt _ h).1))
                    go_roundw
                    case rel => exact ⟨j + 1, cap2, A2, by omega, by omega, by go_num, rfl, Lib.hid (by rw [HI.out]; exact hps2), Lib.hid B2⟩
                    case measure => simp [intOf]; omega
                  · obtain rfl : j = qs.length := by omega
                    have hlr := insQ_len n hkj (Nat.le_refl _)
                    have HRS := Lib.hid (insQ_end n qs k)
                    obtain ⟨rs, hrs⟩ : ∃ rs, rs = insQ n qs k qs.length := ⟨_, rfl⟩
                    rw [← hrs] at hlr HSO HRS
                    have hmem : ∀ q ∈ rs, q ∈ qs ∨ q = q0 n := fun q hq => insQ_mem (hrs ▸ hq)
                    rw [← hlr] at HSO
                    have hown := fun g e => (HSO.out.lt g e).1
                    have h9 := HD0.out.newLB HBL.out HSO.out fun q hq => by
                      rcases hmem q hq with hq | rfl
                      · exact HD0.out.oldQ HBL.out HSO.out hq
                      · exact ⟨q0_gq n wr, fun k hk => absurd hk (q0_fq n k)⟩
                    have HD9 := Lib.hid h9.1
                    have HT9 := Lib.hid (HT1.out.then h9.2.1)
                    have HN9 := Lib.hid h9.2.2
                    have hiq : rs[k]? = some (q0 n) := by rw [HRS.out]; simp [hkl]
                    have fr := H2.out.fr 1
                    have HPB := Lib.hid (HPX.out _ HT9.out)
                    have HZ1 := Lib.hid HT1.out.size
                    have HO := Lib.hid hown
                    have hrl : rs.length ≤ 1025 := by omega
                    rw [← hlr]
                    clear hrs hmem h9 hlr hown HSO HBL H2 HD0 HT1
                    obtain ⟨q, hq0⟩ : ∃ q, q = q0 n := ⟨_, rfl⟩
                    rw [← hq0] at hiq
                    have HQ0 := Lib.hid hq0
                    have hqb : q.x.b.length ≤ 67108864 := by rw [hq0]; simp [q0]
                    clear hq0
                    go_upto_region 23 with fail
                    generalize wr.setCell ⟨m, 1, none⟩ (.slice B rs.length c) = w5 at HD9 HT9 HPB ⊢
                    have HD1 := HD9
                    obtain ⟨g, hg⟩ := HD1.out.addr (by have := (List.getElem?_eq_some_iff.1 hiq).1; omega)
                    subst hg
                    obtain ⟨cap9, hcap9⟩ : ∃ x, x = c := ⟨_, rfl⟩
                    subst hcap9
                    have hle := (HD1.out.so.sr encQ_len).1.le
                    have hmx := (HD1.out.so.sr encQ_len).1.max
                    unfold maxLen at hmx
                    have hq := HD1.out.gq q (List.mem_of_getElem? hiq)
                    have hl2 : (q.x.b.drop q.x.l).length = q.x.b.length - q.x.l := List.length_drop
                    obtain ⟨L9, hL9⟩ : ∃ L9, L9 = q.x.b.drop q.x.l ++ p := ⟨_, rfl⟩
                    have HL9 := Lib.hid hL9
                    have HJ := Lib.hid (fun (W : World) (hW : Below w5.heap.size w5 W) => by
                      have := rjoin_any (w := W) ((hq.b2.below hW)) ((HPB.out.below hW)) hW.size (by rw [hl2]; omega) (by omega) hL9
                      rw [hl2] at this
                      exact this)
                    have ix1 : (k : Int) < rs.length := by have := (List.getElem?_eq_some_iff.1 hiq).1; omega
                    clear hq hl2 hL9
                    go_wp2_with fail
                    apply region_VS (Hb w5) (Gd w5 m room (fz fuse) false (some ⟨g, 0, none⟩) cap9 rs) (Es w5 m room (fz fuse) false g cap9 rs k ⟨q.x.n, q.x.b ++ p, q.x.l, q.x.k⟩) 17 [.inl (.pointer (some ⟨m, 0, none⟩)), .inl (.pointer (some ⟨m, 0, none⟩)), .inl (.pointer (some ⟨m, 1, none⟩)), .inl (.slice (some ⟨g, 0, none⟩) rs.length cap9), .inl (.int .i64 (k : Int)), .inl (.pointer (some ⟨m, 0, none⟩)), .inl (.pointer (some ⟨m, 0, none⟩)), .inl (.pointer (some ⟨m, 1, none⟩)), .inl (.slice (some ⟨g, 0, none⟩) rs.length cap9), .inl (.int .i64 (k : Int)), .inl (.pointer (some ⟨g, k * 4, none⟩)), .inl (.pointer (some ⟨g, k * 4 + 2, none⟩)), .inl (.slice q.B (q.x.b.length - q.x.l) q.d), .inl (.slice PA p.length pc), .inr L9, .inl (.pointer (some ⟨g, k * 4, none⟩)), .inl (.pointer (some ⟨g, k * 4 + 2, none⟩)), .inl undef] (.inl undef)
                    case mono => exact fun p v w0 w9 h hb => Hb.mono h hb
                    case hl => kernel_rfl
                    case hm => kernel_rfl
                    case hf => kernel_rfl
                    case hQ => exact (by intro c x y w e h; exact And.intro (e.symm.trans (And.left h)) (And.right h))
                    case hF => intro vs; simp only [putAll, Act.put, List.setIfInBounds_toArray, List.set_cons_zero, List.set_cons_succ, Nat.reduceAdd]; rfl
                    case h0 => exact ⟨HD1.out.below ⟨rfl, rfl, rfl, Nat.le_refl _, fun _ _ => rfl⟩, ⟨rfl, rfl, rfl, Nat.le_refl _, fun _ _ => rfl⟩⟩
                    case hstep =>
                      repeat' (first | exact AllOps.nil | apply AllOps.cons)
                      · intro vs wx hG hd K hK
                        replace hK : ∀ (uu : Value) (w' : World), Below wx.heap.size wx w' → ((Gd w5 m room (fz fuse) false (some ⟨g, 0, none⟩) cap9 rs)) w' → (Hb w5) (.inl (.pointer (some ⟨m, 0, none⟩))) uu w' → K _ w' := hK
                        simp only [Act.put, List.setIfInBounds_toArray, List.set_cons_zero, List.set_cons_succ] at hK ⊢
                        have HK := Lib.hid hK
                        have HG := Lib.hid hG
                        clear hK hd
                        clear hG
                        go_simp
                        exact HK.out _ _ (Below.refl _ _) HG.out rfl
                      · intro vs wx hG hd K hK
                        have e0 : vs 0 = .pointer (some ⟨m, 0, none⟩) := hd.get (j := 0) (by simp [depsOf, Region.binds])
                        replace hK : ∀ (uu : Value) (w' : World), Below wx.heap.size wx w' → ((Gd w5 m room (fz fuse) false (some ⟨g, 0, none⟩) cap9 rs)) w' → (Hb w5) (.inl (.pointer (some ⟨m, 0, none⟩))) uu w' → K _ w' := hK
                        simp only [Act.put, List.setIfInBounds_toArray, List.set_cons_zero, List.set_cons_succ, e0] at hK ⊢
                        have HK := Lib.hid hK
                        have HG := Lib.hid hG
                        clear hK hd e0
                        clear hG
                        go_simp
                        exact HK.out _ _ (Below.refl _ _) HG.out rfl
                      · intro vs wx hG hd K hK
                        have e1 : vs 1 = .pointer (some ⟨m, 0, none⟩) := hd.get (j := 1) (by simp [depsOf, Region.binds])
                        replace hK : ∀ (uu : Value) (w' : World), Below wx.heap.size wx w' → ((Gd w5 m room (fz fuse) false (some ⟨g, 0, none⟩) cap9 rs)) w' → (Hb w5) (.inl (.pointer (some ⟨m, 1, none⟩))) uu w' → K _ w' := hK
                        simp only [Act.put, List.setIfInBounds_toArray, List.set_cons_zero, List.set_cons_succ, e1] at hK ⊢
                        have HK := Lib.hid hK
                        have HG := Lib.hid hG
                        clear hK hd e1
                        clear hG
                        go_simp
                        exact HK.out _ _ (Below.refl _ _) HG.out rfl
                      · intro vs wx hG hd K hK
                        have e2 : vs 2 = .pointer (some ⟨m, 1, none⟩) := hd.get (j := 2) (by simp [depsOf, Region.binds])
                        replace hK : ∀ (uu : Value) (w' : World), Below wx.heap.size wx w' → ((Gd w5 m room (fz fuse) false (some ⟨g, 0, none⟩) cap9 rs)) w' → (Hb w5) (.inl (.slice (some ⟨g, 0, none⟩) rs.length cap9)) uu w' → K _ w' := hK
                        simp only [Act.put, List.setIfInBounds_toArray, List.set_cons_zero, List.set_cons_succ, e2] at hK ⊢
                        have HK := Lib.hid hK
                        have HG := Lib.hid hG
                        clear hK hd e2
                        have gc1 := HG.out.c1
                        obtain ⟨gs, _⟩ := HG.out.slot hiq
                        have gs2 := gs 2 _ rfl
                        clear hG gs
                        go_simp
                        exact HK.out _ _ (Below.refl _ _) HG.out rfl
                      · intro vs wx hG hd K hK
                        replace hK : ∀ (uu : Value) (w' : World), Below wx.heap.size wx w' → ((Gd w5 m room (fz fuse) false (some ⟨g, 0, none⟩) cap9 rs)) w' → (Hb w5) (.inl (.int .i64 (k : Int))) uu w' → K _ w' := hK
                        simp only [Act.put, List.setIfInBounds_toArray, List.set_cons_zero, List.set_cons_succ] at hK ⊢
                        have HK := Lib.hid hK
                        have HG := Lib.hid hG
                        clear hK hd
                        clear hG
                        go_simp
                        exact HK.out _ _ (Below.refl _ _) HG.out rfl
                      · intro vs wx hG hd K hK
                        replace hK : ∀ (uu : Value) (w' : World), Below wx.heap.size wx w' → ((Gd w5 m room (fz fuse) false (some ⟨g, 0, none⟩) cap9 rs)) w' → (Hb w5) (.inl (.pointer (some ⟨m, 0, none⟩))) uu w' → K _ w' := hK
                        simp only [Act.put, List.setIfInBounds_toArray, List.set_cons_zero, List.set_cons_succ] at hK ⊢
                        have HK := Lib.hid hK
                        have HG := Lib.hid hG
                        clear hK hd
                        clear hG
                        go_simp
                        exact HK.out _ _ (Below.refl _ _) HG.out rfl
                      · intro vs wx hG hd K hK
                        have e5 : vs 5 = .pointer (some ⟨m, 0, none⟩) := hd.get (j := 5) (by simp [depsOf, Region.binds])
                        replace hK : ∀ (uu : Value) (w' : World), Below wx.heap.size wx w' → ((Gd w5 m room (fz fuse) false (some ⟨g, 0, none⟩) cap9 rs)) w' → (Hb w5) (.inl (.pointer (some ⟨m, 0, none⟩))) uu w' → K _ w' := hK
                        simp only [Act.put, List.setIfInBounds_toArray, List.set_cons_zero, List.set_cons_succ, e5] at hK ⊢
                        have HK := Lib.hid hK
                        have HG := Lib.hid hG
                        clear hK hd e5
                        clear hG
                        go_simp
                        exact HK.out _ _ (Below.refl _ _) HG.out rfl
                      · intro vs wx hG hd K hK
                        have e6 : vs 6 = .pointer (some ⟨m, 0, none⟩) := hd.get (j := 6) (by simp [depsOf, Region.binds])
                        replace hK : ∀ (uu : Value) (w' : World), Below wx.heap.size wx w' → ((Gd w5 m room (fz fuse) false (some ⟨g, 0, none⟩) cap9 rs)) w' → (Hb w5) (.inl (.pointer (some ⟨m, 1, none⟩))) uu w' → K _ w' := hK
                        simp only [Act.put, List.setIfInBounds_toArray, List.set_cons_zero, List.set_cons_succ, e6] at hK ⊢
                        have HK := Lib.hid hK
                        have HG := Lib.hid hG
                        clear hK hd e6
                        clear hG
                        go_simp
                        exact HK.out _ _ (Below.refl _ _) HG.out rfl
                      · intro vs wx hG hd K hK
                        have e7 : vs 7 = .pointer (some ⟨m, 1, none⟩) := hd.get (j := 7) (by simp [depsOf, Region.binds])
                        replace hK : ∀ (uu : Value) (w' : World), Below wx.heap.size wx w' → ((Gd w5 m room (fz fuse) false (some ⟨g, 0, none⟩) cap9 rs)) w' → (Hb w5) (.inl (.slice (some ⟨g, 0, none⟩) rs.length cap9)) uu w' → K _ w' := hK
                        simp only [Act.put, List.setIfInBounds_toArray, List.set_cons_zero, List.set_cons_succ, e7] at hK ⊢
                        have HK := Lib.hid hK
                        have HG := Lib.hid hG
                        clear hK hd e7
                        have gc1 := HG.out.c1
                        obtain ⟨gs, _⟩ := HG.out.slot hiq
                        have gs2 := gs 2 _ rfl
                        clear hG gs
                        go_simp
                        exact HK.out _ _ (Below.refl _ _) HG.out rfl
                      · intro vs wx hG hd K hK
                        replace hK : ∀ (uu : Value) (w' : World), Below wx.heap.size wx w' → ((Gd w5 m room (fz fuse) false (some ⟨g, 0, none⟩) cap9 rs)) w' → (Hb w5) (.inl (.int .i64 (k : Int))) uu w' → K _ w' := hK
                        simp only [Act.put, List.setIfInBounds_toArray, List.set_cons_zero, List.set_cons_succ] at hK ⊢
                        have HK := Lib.hid hK
                        have HG := Lib.hid hG
                        clear hK hd
                        clear hG
                        go_simp
                        exact HK.out _ _ (Below.refl _ _) HG.out rfl
                      · intro vs wx hG hd K hK
                        have e8 : vs 8 = .slice (some ⟨g, 0, none⟩) rs.length cap9 := hd.get (j := 8) (by simp [depsOf, Region.binds])
                        have e9 : vs 9 = .int .i64 (k : Int) := hd.get (j := 9) (by simp [depsOf, Region.binds])
                        replace hK : ∀ (uu : Value) (w' : World), Below wx.heap.size wx w' → ((Gd w5 m room (fz fuse) false (some ⟨g, 0, none⟩) cap9 rs)) w' → (Hb w5) (.inl (.pointer (some ⟨g, k * 4, none⟩))) uu w' → K _ w' := hK
                        simp only [Act.put, List.setIfInBounds_toArray, List.set_cons_zero, List.set_cons_succ, e8, e9] at hK ⊢
                        have HK := Lib.hid hK
                        have HG := Lib.hid hG
                        clear hK hd e8 e9
                        clear hG
                        go_simp
                        exact HK.out _ _ (Below.refl _ _) HG.out rfl
                      · intro vs wx hG hd K hK
                        have e10 : vs 10 = .pointer (some ⟨g, k * 4, none⟩) := hd.get (j := 10) (by simp [depsOf, Region.binds])
                        replace hK : ∀ (uu : Value) (w' : World), Below wx.heap.size wx w' → ((Gd w5 m room (fz fuse) false (some ⟨g, 0, none⟩) cap9 rs)) w' → (Hb w5) (.inl (.pointer (some ⟨g, k * 4 + 2, none⟩))) uu w' → K _ w' := hK
                        simp only [Act.put, List.setIfInBounds_toArray, List.set_cons_zero, List.set_cons_succ, e10] at hK ⊢
                        have HK := Lib.hid hK
                        have HG := Lib.hid hG
                        clear hK hd e10
                        clear hG
                        go_simp
                        exact HK.out _ _ (Below.refl _ _) HG.out rfl
                      · intro vs wx hG hd K hK
                        have e11 : vs 11 = .pointer (some ⟨g, k * 4 + 2, none⟩) := hd.get (j := 11) (by simp [depsOf, Region.binds])
                        replace hK : ∀ (uu : Value) (w' : World), Below wx.heap.size wx w' → ((Gd w5 m room (fz fuse) false (some ⟨g, 0, none⟩) cap9 rs)) w' → (Hb w5) (.inl (.slice q.B (q.x.b.length - q.x.l) q.d)) uu w' → K _ w' := hK
                        simp only [Act.put, List.setIfInBounds_toArray, List.set_cons_zero, List.set_cons_succ, e11] at hK ⊢
                        have HK := Lib.hid hK
                        have HG := Lib.hid hG
                        clear hK hd e11
                        have gc1 := HG.out.c1
                        obtain ⟨gs, _⟩ := HG.out.slot hiq
                        have gs2 := gs 2 _ rfl
                        clear hG gs
                        go_simp
                        exact HK.out _ _ (Below.refl _ _) HG.out rfl
                      · intro vs wx hG hd K hK
                        replace hK : ∀ (uu : Value) (w' : World), Below wx.heap.size wx w' → ((Gd w5 m room (fz fuse) false (some ⟨g, 0, none⟩) cap9 rs)) w' → (Hb w5) (.inl (.slice PA p.length pc)) uu w' → K _ w' := hK
                        simp only [Act.put, List.setIfInBounds_toArray, List.set_cons_zero, List.set_cons_succ] at hK ⊢
                        have HK := Lib.hid hK
                        have HG := Lib.hid hG
                        clear hK hd
                        clear hG
                        go_simp
                        exact HK.out _ _ (Below.refl _ _) HG.out rfl
                      · intro vs wx hG hd K hK
                        have e12 : vs 12 = .slice q.B (q.x.b.length - q.x.l) q.d := hd.get (j := 12) (by simp [depsOf, Region.binds])
                        have e13 : vs 13 = .slice PA p.length pc := hd.get (j := 13) (by simp [depsOf, Region.binds])
                        replace hK : ∀ (uu : Value) (w' : World), Below wx.heap.size wx w' → ((Gd w5 m room (fz fuse) false (some ⟨g, 0, none⟩) cap9 rs)) w' → (Hb w5) (.inr L9) uu w' → K _ w' := hK
                        simp only [Act.put, List.setIfInBounds_toArray, List.set_cons_zero, List.set_cons_succ, e12, e13] at hK ⊢
                        have HK := Lib.hid hK
                        have HG := Lib.hid hG
                        clear hK hd e12 e13
                        clear hG
                        go_simp
                        go_at_call 42
                        refine (HJ.out _ HG.out.bel).mono ?_
                        rintro e w9 ⟨A9, c9, rfl, ho, hb⟩
                        exact HK.out _ _ hb (HG.out.below hb) ⟨A9, c9, rfl, ho.more HG.out.bel.size⟩
                      · intro vs wx hG hd K hK
                        have e3 : vs 3 = .slice (some ⟨g, 0, none⟩) rs.length cap9 := hd.get (j := 3) (by simp [depsOf, Region.binds])
                        have e4 : vs 4 = .int .i64 (k : Int) := hd.get (j := 4) (by simp [depsOf, Region.binds])
                        replace hK : ∀ (uu : Value) (w' : World), Below wx.heap.size wx w' → ((Gd w5 m room (fz fuse) false (some ⟨g, 0, none⟩) cap9 rs)) w' → (Hb w5) (.inl (.pointer (some ⟨g, k * 4, none⟩))) uu w' → K _ w' := hK
                        simp only [Act.put, List.setIfInBounds_toArray, List.set_cons_zero, List.set_cons_succ, e3, e4] at hK ⊢
                        have HK := Lib.hid hK
                        have HG := Lib.hid hG
                        clear hK hd e3 e4
                        clear hG
                        go_simp
                        exact HK.out _ _ (Below.refl _ _) HG.out rfl
                      · intro vs wx hG hd K hK
                        have e15 : vs 15 = .pointer (some ⟨g, k * 4, none⟩) := hd.get (j := 15) (by simp [depsOf, Region.binds])
                        replace hK : ∀ (uu : Value) (w' : World), Below wx.heap.size wx w' → ((Gd w5 m room (fz fuse) false (some ⟨g, 0, none⟩) cap9 rs)) w' → (Hb w5) (.inl (.pointer (some ⟨g, k * 4 + 2, none⟩))) uu w' → K _ w' := hK
                        simp only [Act.put, List.setIfInBounds_toArray, List.set_cons_zero, List.set_cons_succ, e15] at hK ⊢
                        have HK := Lib.hid hK
                        have HG := Lib.hid hG
                        clear hK hd e15
                        clear hG
                        go_simp
                        exact HK.out _ _ (Below.refl _ _) HG.out rfl
                      · intro vs wx hG hd K hK
                        have e16 : vs 16 = .pointer (some ⟨g, k * 4 + 2, none⟩) := hd.get (j := 16) (by simp [depsOf, Region.binds])
                        obtain ⟨A14, c14, e14, q14⟩ : ∃ Aq cq, vs 14 = .slice Aq L9.length cq ∧ Ob wx w5.heap.size (.slice Aq L9.length cq) L9 := hd.get (j := 14) (by simp [depsOf, Region.binds])
                        replace hK : ∀ (uu : Value) (w' : World), (Es w5 m room (fz fuse) false g cap9 rs k ⟨q.x.n, q.x.b ++ p, q.x.l, q.x.k⟩) w' → K _ w' := hK
                        simp only [Act.put, e16, e14] at hK ⊢
                        have HK := Lib.hid hK
                        have HG := Lib.hid hG
                        clear hK hd e16 e14
                        obtain ⟨gs, gfr⟩ := HG.out.slot hiq
                        have gs2 := gs 2 _ rfl
                        have gf2 := gfr (k * 4 + 2)
                        have HE9 := Lib.hid (es_app HD1.out HG.out hiq q14 HL9.out)
                        clear hG gs gfr q14
                        go_simp
                        exact HK.out undef _ HE9.out
                    case hend =>
                      rintro vs wx ⟨q', e', D2, t2, hN⟩
                      have HR := Lib.hid (RD.turned (a' := ⟨room, fz fuse, false, putA n p (qs.map Rq.x)⟩) HB.out D2 (by
                        rw [HPN.out, List.map_set, e', HQ0.out, HRS.out]
                        simp [q0, hkl]) (HT9.out.thenQ t2 fun j hj h => by
                          have h1 : w1.heap.size ≤ g := HO.out g rfl
                          have h2 : j = g := h
                          have h3 := HZ1.out
                          omega) (fun j hj => (hN j hj).elim (fun h => (HN9.out j h).imp id fun h => Nat.le_trans HZ1.out h) fun h => .inr (Nat.le_trans HT9.out.size h)) 0)
                      clear D2 t2 hN e'
                      go_wp2_with fail
                      go_ret
                      exact HR.out
            · have hkq : k = qs.length := by omega
              have HPN : Hid (putA n p (qs.map Rq.x) = (qs.map Rq.x).take k ++ ⟨n, p, 0, false⟩ :: (qs.map Rq.x).drop k) := Lib.hid (put_new (by simpa using hkl) (fun j hj hjk => by have := HLT.out j (by simpa using hj) hjk; simpa using this) (fun h => absurd h (by simp; omega)))
              clear HLT H2
              have hkq2 : qs.length ≤ k := by omega
              clear hkq
              have HSO := HSOk
              have HBL := HBLk
              have HL : Hid ((qs.take k).length = k) := Lib.hid (by simp; omega)
              have z2 : w1.heap.size ≤ wr.heap.size := HBL.out.size
              go_wp2_with (at_builtin; refine wpList_pushE Try.underlying59 info_sg rfl (by decide) wr rfl (.tmp 80) (.tmp 83) rfl w1.heap.size (.slice B k c) (qs.take k) rfl HSO.out (q0 n) #[.int .i64 n, .slice none 0 0, .slice none 0 0, .bool false] (by simp [encQ, q0]) rfl (encQ_one _) _ wr.heap.size rfl rfl (k + 1) (by rw [HL.out]) (by unfold maxLen; omega) (by omega) z2 ?_; intro A2 cap2 w2 hps2 hgrow2 hat2; have B2 : Below w1.heap.size w1 w2 := grown_below HBL.out hgrow2 z2 (fun _ h => (HSO.out.lt _ h).1))
              have HS2 := Lib.hid hps2
              have HB2 := Lib.hid B2
              clear hps2 B2 hgrow2 hat2 HSO HBL HSOk HBLk HL
              go_wp2_with fail
              go_loopw [8, 10] (fun l jv wr => ∃ (j c : Nat) (B : Option Addr), k ≤ j ∧ j ≤ qs.length ∧ jv = .int .i64 (j : Int) ∧ l = .slice B (j + 1) c ∧ Hid (So encQ 4 wr w1.heap.size SG (.slice B (j + 1) c) (insQ n qs k j)) ∧ Hid (Below w1.heap.size w1 wr)) (fun _ jv _ => qs.length - (intOf jv).toNat)
              case atStart => exact ⟨k, cap2, A2, Nat.le_refl _, hkl, rfl, rfl, Lib.hid (by rw [insQ_start hkl]; exact HS2.out), HB2⟩
              case round =>
                clear HS2 HB2 z2
                obtain ⟨j, c, B, hkj, hj, rfl, rfl, HSO, HBL⟩ := hrel
                rename World => wr
                have z2 : w1.heap.size ≤ wr.heap.size := HBL.out.size
                have H2 := Lib.hid (HD0.out.below HBL.out)
                have d1 := H2.out.c1
                by_cases hlt : j < qs.length
                · exact absurd hlt (by omega)
                · obtain rfl : j = qs.length := by omega
                  have hlr := insQ_len n hkj (Nat.le_refl _)
                  have HRS := Lib.hid (insQ_end n qs k)
                  obtain ⟨rs, hrs⟩ : ∃ rs, rs = insQ n qs k qs.length := ⟨_, rfl⟩
                  rw [← hrs] at hlr HSO HRS
                  have hmem : ∀ q ∈ rs, q ∈ qs ∨ q = q0 n := fun q hq => insQ_mem (hrs ▸ hq)
                  rw [← hlr] at HSO
                  have hown := fun g e => (HSO.out.lt g e).1
                  have h9 := HD0.out.newLB HBL.out HSO.out fun q hq => by
                    rcases hmem q hq with hq | rfl
                    · exact HD0.out.oldQ HBL.out HSO.out hq
                    · exact ⟨q0_gq n wr, fun k hk => absurd hk (q0_fq n k)⟩
                  have HD9 := Lib.hid h9.1
                  have HT9 := Lib.hid (HT1.out.then h9.2.1)
                  have HN9 := Lib.hid h9.2.2
                  have hiq : rs[k]? = some (q0 n) := by rw [HRS.out]; simp [hkl]
                  have fr := H2.out.fr 1
                  have HPB := Lib.hid (HPX.out _ HT9.out)
                  have HZ1 := Lib.hid HT1.out.size
                  have HO := Lib.hid hown
                  have hrl : rs.length ≤ 1025 := by omega
                  rw [← hlr]
                  clear hrs hmem h9 hlr hown HSO HBL H2 HD0 HT1
                  obtain ⟨q, hq0⟩ : ∃ q, q = q0 n := ⟨_, rfl⟩
                  rw [← hq0] at hiq
                  have HQ0 := Lib.hid hq0
                  have hqb : q.x.b.length ≤ 67108864 := by rw [hq0]; simp [q0]
                  clear hq0
                  go_upto_region 23 with fail
                  generalize wr.setCell ⟨m, 1, none⟩ (.slice B rs.length c) = w5 at HD9 HT9 HPB ⊢
                  have HD1 := HD9
                  obtain ⟨g, hg⟩ := HD1.out.addr (by have := (List.getElem?_eq_some_iff.1 hiq).1; omega)
                  subst hg
                  obtain ⟨cap9, hcap9⟩ : ∃ x, x = c := ⟨_, rfl⟩
                  subst hcap9
                  have hle := (HD1.out.so.sr encQ_len).1.le
                  have hmx := (HD1.out.so.sr encQ_len).1.max
                  unfold maxLen at hmx
                  have hq := HD1.out.gq q (List.mem_of_getElem? hiq)
                  have hl2 : (q.x.b.drop q.x.l).length = q.x.b.length - q.x.l := List.length_drop
                  obtain ⟨L9, hL9⟩ : ∃ L9, L9 = q.x.b.drop q.x.l ++ p := ⟨_, rfl⟩
                  have HL9 := Lib.hid hL9
                  have HJ := Lib.hid (fun (W : World) (hW : Below w5.heap.size w5 W) => by
                    have := rjoin_any (w := W) ((hq.b2.below hW)) ((HPB.out.below hW)) hW.size (by rw [hl2]; omega) (by omega) hL9
                    rw [hl2] at this
                    exact this)
                  have ix1 : (k : Int) < rs.length := by have := (List.getElem?_eq_some_iff.1 hiq).1; omega
                  clear hq hl2 hL9
                  go_wp2_with fail
                  apply region_VS (Hb w5) (Gd w5 m room (fz fuse) false (some ⟨g, 0, none⟩) cap9 rs) (Es w5 m room (fz fuse) false g cap9 rs k ⟨q.x.n, q.x.b ++ p, q.x.l, q.x.k⟩) 17 [.inl (.pointer (some ⟨m, 0, none⟩)), .inl (.pointer (some ⟨m, 0, none⟩)), .inl (.pointer (some ⟨m, 1, none⟩)), .inl (.slice (some ⟨g, 0, none⟩) rs.length cap9), .inl (.int .i64 (k : Int)), .inl (.pointer (some ⟨m, 0, none⟩)), .inl (.pointer (some ⟨m, 0, none⟩)), .inl (.pointer (some ⟨m, 1, none⟩)), .inl (.slice (some ⟨g, 0, none⟩) rs.length cap9), .inl (.int .i64 (k : Int)), .inl (.pointer (some ⟨g, k * 4, none⟩)), .inl (.pointer (some ⟨g, k * 4 + 2, none⟩)), .inl (.slice q.B (q.x.b.length - q.x.l) q.d), .inl (.slice PA p.length pc), .inr L9, .inl (.pointer (some ⟨g, k * 4, none⟩)), .inl (.pointer (some ⟨g, k * 4 + 2, none⟩)), .inl undef] (.inl undef)
                  case mono => exact fun p v w0 w9 h hb => Hb.mono h hb
                  case hl => kernel_rfl
                  case hm => kernel_rfl
                  case hf => kernel_rfl
                  case hQ => exact (by intro c x y w e h; exact And.intro (e.symm.trans (And.left h)) (And.right h))
                  case hF => intro vs; simp only [putAll, Act.put, List.setIfInBounds_toArray, List.set_cons_zero, List.set_cons_succ, Nat.reduceAdd]; rfl
                  case h0 => exact ⟨HD1.out.below ⟨rfl, rfl, rfl, Nat.le_refl _, fun _ _ => rfl⟩, ⟨rfl, rfl, rfl, Nat.le_refl _, fun _ _ => rfl⟩⟩
                  case hstep =>
                    repeat' (first | exact AllOps.nil | apply AllOps.cons)
                    · intro vs wx hG hd K hK
                      replace hK : ∀ (uu : Value) (w' : World), Below wx.heap.size wx w' → ((Gd w5 m room (fz fuse) false (some ⟨g, 0, none⟩) cap9 rs)) w' → (Hb w5) (.inl (.pointer (some ⟨m, 0, none⟩))) uu w' → K _ w' := hK
                      simp only [Act.put, List.setIfInBounds_toArray, List.set_cons_zero, List.set_cons_succ] at hK ⊢
                      have HK := Lib.hid hK
                      have HG := Lib.hid hG
                      clear hK hd
                      clear hG
                      go_simp
                      exact HK.out _ _ (Below.refl _ _) HG.out rfl
                    · intro vs wx hG hd K hK
                      have e0 : vs 0 = .pointer (some ⟨m, 0, none⟩) := hd.get (j := 0) (by simp [depsOf, Region.binds])
                      replace hK : ∀ (uu : Value) (w' : World), Below wx.heap.size wx w' → ((Gd w5 m room (fz fuse) false (some ⟨g, 0, none⟩) cap9 rs)) w' → (Hb w5) (.inl (.pointer (some ⟨m, 0, none⟩))) uu w' → K _ w' := hK
                      simp only [Act.put, List.setIfInBounds_toArray, List.set_cons_zero, List.set_cons_succ, e0] at hK ⊢
                      have HK := Lib.hid hK
                      have HG := Lib.hid hG
                      clear hK hd e0
                      clear hG
                      go_simp
                      exact HK.out _ _ (Below.refl _ _) HG.out rfl
                    · intro vs wx hG hd K hK
                      have e1 : vs 1 = .pointer (some ⟨m, 0, none⟩) := hd.get (j := 1) (by simp [depsOf, Region.binds])
                      replace hK : ∀ (uu : Value) (w' : World), Below wx.heap.size wx w' → ((Gd w5 m room (fz fuse) false (some ⟨g, 0, none⟩) cap9 rs)) w' → (Hb w5) (.inl (.pointer (some ⟨m, 1, none⟩))) uu w' → K _ w' := hK
                      simp only [Act.put, List.setIfInBounds_toArray, List.set_cons_zero, List.set_cons_succ, e1] at hK ⊢
                      have HK := Lib.hid hK
                      have HG := Lib.hid hG
                      clear hK hd e1
                      clear hG
                      go_simp
                      exact HK.out _ _ (Below.refl _ _) HG.out rfl
                    · intro vs wx hG hd K hK
                      have e2 : vs 2 = .pointer (some ⟨m, 1, none⟩) := hd.get (j := 2) (by simp [depsOf, Region.binds])
                      replace hK : ∀ (uu : Value) (w' : World), Below wx.heap.size wx w' → ((Gd w5 m room (fz fuse) false (some ⟨g, 0, none⟩) cap9 rs)) w' → (Hb w5) (.inl (.slice (some ⟨g, 0, none⟩) rs.length cap9)) uu w' → K _ w' := hK
                      simp only [Act.put, List.setIfInBounds_toArray, List.set_cons_zero, List.set_cons_succ, e2] at hK ⊢
                      have HK := Lib.hid hK
                      have HG := Lib.hid hG
                      clear hK hd e2
                      have gc1 := HG.out.c1
                      obtain ⟨gs, _⟩ := HG.out.slot hiq
                      have gs2 := gs 2 _ rfl
                      clear hG gs
                      go_simp
                      exact HK.out _ _ (Below.refl _ _) HG.out rfl
                    · intro vs wx hG hd K hK
                      replace hK : ∀ (uu : Value) (w' : World), Below wx.heap.size wx w' → ((Gd w5 m room (fz fuse) false (some ⟨g, 0, none⟩) cap9 rs)) w' → (Hb w5) (.inl (.int .i64 (k : Int))) uu w' → K _ w' := hK
                      simp only [Act.put, List.setIfInBounds_toArray, List.set_cons_zero, List.set_cons_succ] at hK ⊢
                      have HK := Lib.hid hK
                      have HG := Lib.hid hG
                      clear hK hd
                      clear hG
                      go_simp
                      exact HK.out _ _ (Below.refl _ _) HG.out rfl
                    · intro vs wx hG hd K hK
                      replace hK : ∀ (uu : Value) (w' : World), Below wx.heap.size wx w' → ((Gd w5 m room (fz fuse) false (some ⟨g, 0, none⟩) cap9 rs)) w' → (Hb w5) (.inl (.pointer (some ⟨m, 0, none⟩))) uu w' → K _ w' := hK
                      simp only [Act.put, List.setIfInBounds_toArray, List.set_cons_zero, List.set_cons_succ] at hK ⊢
                      have HK := Lib.hid hK
                      have HG := Lib.hid hG
                      clear hK hd
                      clear hG
                      go_simp
                      exact HK.out _ _ (Below.refl _ _) HG.out rfl
                    · intro vs wx hG hd K hK
                      have e5 : vs 5 = .pointer (some ⟨m, 0, none⟩) := hd.get (j := 5) (by simp [depsOf, Region.binds])
                      replace hK : ∀ (uu : Value) (w' : World), Below wx.heap.size wx w' → ((Gd w5 m room (fz fuse) false (some ⟨g, 0, none⟩) cap9 rs)) w' → (Hb w5) (.inl (.pointer (some ⟨m, 0, none⟩))) uu w' → K _ w' := hK
                      simp only [Act.put, List.setIfInBounds_toArray, List.set_cons_zero, List.set_cons_succ, e5] at hK ⊢
                      have HK := Lib.hid hK
                      have HG := Lib.hid hG
                      clear hK hd e5
                      clear hG
                      go_simp
                      exact HK.out _ _ (Below.refl _ _) HG.out rfl
                    · intro vs wx hG hd K hK
                      have e6 : vs 6 = .pointer (some ⟨m, 0, none⟩) := hd.get (j := 6) (by simp [depsOf, Region.binds])
                      replace hK : ∀ (uu : Value) (w' : World), Below wx.heap.size wx w' → ((Gd w5 m room (fz fuse) false (some ⟨g, 0, none⟩) cap9 rs)) w' → (Hb w5) (.inl (.pointer (some ⟨m, 1, none⟩))) uu w' → K _ w' := hK
                      simp only [Act.put, List.setIfInBounds_toArray, List.set_cons_zero, List.set_cons_succ, e6] at hK ⊢
                      have HK := Lib.hid hK
                      have HG := Lib.hid hG
                      clear hK hd e6
                      clear hG
                      go_simp
                      exact HK.out _ _ (Below.refl _ _) HG.out rfl
                    · intro vs wx hG hd K hK
                      have e7 : vs 7 = .pointer (some ⟨m, 1, none⟩) := hd.get (j := 7) (by simp [depsOf, Region.binds])
                      replace hK : ∀ (uu : Value) (w' : World), Below wx.heap.size wx w' → ((Gd w5 m room (fz fuse) false (some ⟨g, 0, none⟩) cap9 rs)) w' → (Hb w5) (.inl (.slice (some ⟨g, 0, none⟩) rs.length cap9)) uu w' → K _ w' := hK
                      simp only [Act.put, List.setIfInBounds_toArray, List.set_cons_zero, List.set_cons_succ, e7] at hK ⊢
                      have HK := Lib.hid hK
                      have HG := Lib.hid hG
                      clear hK hd e7
                      have gc1 := HG.out.c1
                      obtain ⟨gs, _⟩ := HG.out.slot hiq
                      have gs2 := gs 2 _ rfl
                      clear hG gs
                      go_simp
                      exact HK.out _ _ (Below.refl _ _) HG.out rfl
                    · intro vs wx hG hd K hK
                      replace hK : ∀ (uu : Value) (w' : World), Below wx.heap.size wx w' → ((Gd w5 m room (fz fuse) false (some ⟨g, 0, none⟩) cap9 rs)) w' → (Hb w5) (.inl (.int .i64 (k : Int))) uu w' → K _ w' := hK
                      simp only [Act.put, List.setIfInBounds_toArray, List.set_cons_zero, List.set_cons_succ] at hK ⊢
                      have HK := Lib.hid hK
                      have HG := Lib.hid hG
                      clear hK hd
                      clear hG
                      go_simp
                      exact HK.out _ _ (Below.refl _ _) HG.out rfl
                    · intro vs wx hG hd K hK
                      have e8 : vs 8 = .slice (some ⟨g, 0, none⟩) rs.length cap9 := hd.get (j := 8) (by simp [depsOf, Region.binds])
                      have e9 : vs 9 = .int .i64 (k : Int) := hd.get (j := 9) (by simp [depsOf, Region.binds])
                      replace hK : ∀ (uu : Value) (w' : World), Below wx.heap.size wx w' → ((Gd w5 m room (fz fuse) false (some ⟨g, 0, none⟩) cap9 rs)) w' → (Hb w5) (.inl (.pointer (some ⟨g, k * 4, none⟩))) uu w' → K _ w' := hK
                      simp only [Act.put, List.setIfInBounds_toArray, List.set_cons_zero, List.set_cons_succ, e8, e9] at hK ⊢
                      have HK := Lib.hid hK
                      have HG := Lib.hid hG
                      clear hK hd e8 e9
                      clear hG
                      go_simp
                      exact HK.out _ _ (Below.refl _ _) HG.out rfl
                    · intro vs wx hG hd K hK
                      have e10 : vs 10 = .pointer (some ⟨g, k * 4, none⟩) := hd.get (j := 10) (by simp [depsOf, Region.binds])
                      replace hK : ∀ (uu : Value) (w' : World), Below wx.heap.size wx w' → ((Gd w5 m room (fz fuse) false (some ⟨g, 0, none⟩) cap9 rs)) w' → (Hb w5) (.inl (.pointer (some ⟨g, k * 4 + 2, none⟩))) uu w' → K _ w' := hK
                      simp only [Act.put, List.setIfInBounds_toArray, List.set_cons_zero, List.set_cons_succ, e10] at hK ⊢
                      have HK := Lib.hid hK
                      have HG := Lib.hid hG
                      clear hK hd e10
                      clear hG
                      go_simp
                      exact HK.out _ _ (Below.refl _ _) HG.out rfl
                    · intro vs wx hG hd K hK
                      have e11 : vs 11 = .pointer (some ⟨g, k * 4 + 2, none⟩) := hd.get (j := 11) (by simp [depsOf, Region.binds])
                      replace hK : ∀ (uu : Value) (w' : World), Below wx.heap.size wx w' → ((Gd w5 m room (fz fuse) false (some ⟨g, 0, none⟩) cap9 rs)) w' → (Hb w5) (.inl (.slice q.B (q.x.b.length - q.x.l) q.d)) uu w' → K _ w' := hK
                      simp only [Act.put, List.setIfInBounds_toArray, List.set_cons_zero, List.set_cons_succ, e11] at hK ⊢
                      have HK := Lib.hid hK
                      have HG := Lib.hid hG
                      clear hK hd e11
                      have gc1 := HG.out.c1
                      obtain ⟨gs, _⟩ := HG.out.slot hiq
                      have gs2 := gs 2 _ rfl
                      clear hG gs
                      go_simp
                      exact HK.out _ _ (Below.refl _ _) HG.out rfl
                    · intro vs wx hG hd K hK
                      replace hK : ∀ (uu : Value) (w' : World), Below wx.heap.size wx w' → ((Gd w5 m room (fz fuse) false (some ⟨g, 0, none⟩) cap9 rs)) w' → (Hb w5) (.inl (.slice PA p.length pc)) uu w' → K _ w' := hK
                      simp only [Act.put, List.setIfInBounds_toArray, List.set_cons_zero, List.set_cons_succ] at hK ⊢
                      have HK := Lib.hid hK
                      have HG := Lib.hid hG
                      clear hK hd
                      clear hG
                      go_simp
                      exact HK.out _ _ (Below.refl _ _) HG.out rfl
                    · intro vs wx hG hd K hK
                      have e12 : vs 12 = .slice q.B (q.x.b.length - q.x.l) q.d := hd.get (j := 12) (by simp [depsOf, Region.binds])
                      have e13 : vs 13 = .slice PA p.length pc := hd.get (j := 13) (by simp [depsOf, Region.binds])
                      replace hK : ∀ (uu : Value) (w' : World), Below wx.heap.size wx w' → ((Gd w5 m room (fz fuse) false (some ⟨g, 0, none⟩) cap9 rs)) w' → (Hb w5) (.inr L9) uu w' → K _ w' := hK
                      simp only [Act.put, List.setIfInBounds_toArray, List.set_cons_zero, List.set_cons_succ, e12, e13] at hK ⊢
                      have HK := Lib.hid hK
                      have HG := Lib.hid hG
                      clear hK hd e12 e13
                      clear hG
                      go_simp
                      go_at_call 42
                      refine (HJ.out _ HG.out.bel).mono ?_
                      rintro e w9 ⟨A9, c9, rfl, ho, hb⟩
                      exact HK.out _ _ hb (HG.out.below hb) ⟨A9, c9, rfl, ho.more HG.out.bel.size⟩
                    · intro vs wx hG hd K hK
                      have e3 : vs 3 = .slice (some ⟨g, 0, none⟩) rs.length cap9 := hd.get (j := 3) (by simp [depsOf, Region.binds])
                      have e4 : vs 4 = .int .i64 (k : Int) := hd.get (j := 4) (by simp [depsOf, Region.binds])
                      replace hK : ∀ (uu : Value) (w' : World), Below wx.heap.size wx w' → ((Gd w5 m room (fz fuse) false (some ⟨g, 0, none⟩) cap9 rs)) w' → (Hb w5) (.inl (.pointer (some ⟨g, k * 4, none⟩))) uu w' → K _ w' := hK
                      simp only [Act.put, List.setIfInBounds_toArray, List.set_cons_zero, List.set_cons_succ, e3, e4] at hK ⊢
                      have HK := Lib.hid hK
                      have HG := Lib.hid hG
                      clear hK hd e3 e4
                      clear hG
                      go_simp
                      exact HK.out _ _ (Below.refl _ _) HG.out rfl
                    · intro vs wx hG hd K hK
                      have e15 : vs 15 = .pointer (some ⟨g, k * 4, none⟩) := hd.get (j := 15) (by simp [depsOf, Region.binds])
                      replace hK : ∀ (uu : Value) (w' : World), Below wx.heap.size wx w' → ((Gd w5 m room (fz fuse) false (some ⟨g, 0, none⟩) cap9 rs)) w' → (Hb w5) (.inl (.pointer (some ⟨g, k * 4 + 2, none⟩))) uu w' → K _ w' := hK
                      simp only [Act.put, List.setIfInBounds_toArray, List.set_cons_zero, List.set_cons_succ, e15] at hK ⊢
                      have HK := Lib.hid hK
                      have HG := Lib.hid hG
                      clear hK hd e15
                      clear hG
                      go_simp
                      exact HK.out _ _ (Below.refl _ _) HG.out rfl
                    · intro vs wx hG hd K hK
                      have e16 : vs 16 = .pointer (some ⟨g, k * 4 + 2, none⟩) := hd.get (j := 16) (by simp [depsOf, Region.binds])
                      obtain ⟨A14, c14, e14, q14⟩ : ∃ Aq cq, vs 14 = .slice Aq L9.length cq ∧ Ob wx w5.heap.size (.slice Aq L9.length cq) L9 := hd.get (j := 14) (by simp [depsOf, Region.binds])
                      replace hK : ∀ (uu : Value) (w' : World), (Es w5 m room (fz fuse) false g cap9 rs k ⟨q.x.n, q.x.b ++ p, q.x.l, q.x.k⟩) w' → K _ w' := hK
                      simp only [Act.put, e16, e14] at hK ⊢
                      have HK := Lib.hid hK
                      have HG := Lib.hid hG
                      clear hK hd e16 e14
                      obtain ⟨gs, gfr⟩ := HG.out.slot hiq
                      have gs2 := gs 2 _ rfl
                      have gf2 := gfr (k * 4 + 2)
                      have HE9 := Lib.hid (es_app HD1.out HG.out hiq q14 HL9.out)
                      clear hG gs gfr q14
                      go_simp
                      exact HK.out undef _ HE9.out
                  case hend =>
                    rintro vs wx ⟨q', e', D2, t2, hN⟩
                    have HR := Lib.hid (RD.turned (a' := ⟨room, fz fuse, false, putA n p (qs.map Rq.x)⟩) HB.out D2 (by
                      rw [HPN.out, List.map_set, e', HQ0.out, HRS.out]
                      simp [q0, hkl]) (HT9.out.thenQ t2 fun j hj h => by
                        have h1 : w1.heap.size ≤ g := HO.out g rfl
                        have h2 : j = g := h
                        have h3 := HZ1.out
                        omega) (fun j hj => (hN j hj).elim (fun h => (HN9.out j h).imp id fun h => Nat.le_trans HZ1.out h) fun h => .inr (Nat.le_trans HT9.out.size h)) 0)
                    clear D2 t2 hN e'
                    go_wp2_with fail
                    go_ret
                    exact HR.out
    · rw [hf] at HF
      rw [hh] at hr
      have hi0 : (0 : Int) ≤ (i : Int) := Int.natCast_nonneg i
      by_cases hfull : room - S < (p.length : Int)
      · rw [if_pos hfull] at hr
        cases hr
        have b9 : decide (room - S < (p.length : Int)) = true := by simpa using hfull
        clear hf hh hf1 hf2 hx hxn
        go_enter Try.func20, Try.ntmps20
        go_wp2_with fail
        go_at_call 40
        refine HF.out.mono ?_
        rintro _ w9 ⟨rfl, hw9⟩
        replace hw9 := hw9.symm
        subst hw9
        go_wp2_with fail
        apply region_V eqV (Gd w m room fuse false A cap qs) [.slice PA p.length pc, .int .i64 (p.length : Int), .pointer (some ⟨m, 0, none⟩), .pointer (some ⟨m, 0, none⟩), .pointer (some ⟨m, 0, none⟩), .int .i64 room, .pointer (some ⟨m, 0, none⟩), .int .i64 (S : Int), .int .i64 (room - S), .bool true, .bool true, undef, undef, undef, undef, undef, undef, undef, undef, undef, undef, .bool true] (undef)
        case mono => exact fun p v w0 w9 h hb => h
        case hm => kernel_rfl
        case hf => kernel_rfl
        case hQ => exact (by intro c x y w e h; exact And.intro (e.symm.trans (And.left h)) (And.right h))
        case hF => intro vs; simp only [putAll, Act.put, List.setIfInBounds_toArray, List.set_cons_zero, List.set_cons_succ, Nat.reduceAdd]; rfl
        case h0 => exact ⟨HD.out.below ⟨rfl, rfl, rfl, Nat.le_refl _, fun _ _ => rfl⟩, ⟨rfl, rfl, rfl, Nat.le_refl _, fun _ _ => rfl⟩⟩
        case hstep =>
          repeat' (first | exact AllOps.nil | apply AllOps.cons)
          · intro vs wx hG hd K hK
            replace hK : ∀ (uu : Value) (w' : World), Below wx.heap.size wx w' → ((Gd w m room fuse false A cap qs)) w' → eqV (.slice PA p.length pc) uu w' → K _ w' := hK
            simp only [Act.put, List.setIfInBounds_toArray, List.set_cons_zero, List.set_cons_succ] at hK ⊢
            have HK := Lib.hid hK
            have HG := Lib.hid hG
            clear hK hd
            clear hG
            go_simp
            exact HK.out _ _ (Below.refl _ _) HG.out rfl
          · intro vs wx hG hd K hK
            have e0 : vs 0 = .slice PA p.length pc := hd.get (j := 0) (by simp [depsOf, Region.binds])
            replace hK : ∀ (uu : Value) (w' : World), Below wx.heap.size wx w' → ((Gd w m room fuse false A cap qs)) w' → eqV (.int .i64 (p.length : Int)) uu w' → K _ w' := hK
            simp only [Act.put, List.setIfInBounds_toArray, List.set_cons_zero, List.set_cons_succ, e0] at hK ⊢
            have HK := Lib.hid hK
            have HG := Lib.hid hG
            clear hK hd e0
            clear hG
            go_simp
            exact HK.out _ _ (Below.refl _ _) HG.out rfl
          · intro vs wx hG hd K hK
            replace hK : ∀ (uu : Value) (w' : World), Below wx.heap.size wx w' → ((Gd w m room fuse false A cap qs)) w' → eqV (.pointer (some ⟨m, 0, none⟩)) uu w' → K _ w' := hK
            simp only [Act.put, List.setIfInBounds_toArray, List.set_cons_zero, List.set_cons_succ] at hK ⊢
            have HK := Lib.hid hK
            have HG := Lib.hid hG
            clear hK hd
            clear hG
            go_simp
            exact HK.out _ _ (Below.refl _ _) HG.out rfl
          · intro vs wx hG hd K hK
            have e2 : vs 2 = .pointer (some ⟨m, 0, none⟩) := hd.get (j := 2) (by simp [depsOf, Region.binds])
            replace hK : ∀ (uu : Value) (w' : World), Below wx.heap.size wx w' → ((Gd w m room fuse false A cap qs)) w' → eqV (.pointer (some ⟨m, 0, none⟩)) uu w' → K _ w' := hK
            simp only [Act.put, List.setIfInBounds_toArray, List.set_cons_zero, List.set_cons_succ, e2] at hK ⊢
            have HK := Lib.hid hK
            have HG := Lib.hid hG
            clear hK hd e2
            clear hG
            go_simp
            exact HK.out _ _ (Below.refl _ _) HG.out rfl
          · intro vs wx hG hd K hK
            have e3 : vs 3 = .pointer (some ⟨m, 0, none⟩) := hd.get (j := 3) (by simp [depsOf, Region.binds])
            replace hK : ∀ (uu : Value) (w' : World), Below wx.heap.size wx w' → ((Gd w m room fuse false A cap qs)) w' → eqV (.pointer (some ⟨m, 0, none⟩)) uu w' → K _ w' := hK
            simp only [Act.put, List.setIfInBounds_toArray, List.set_cons_zero, List.set_cons_succ, e3] at hK ⊢
            have HK := Lib.hid hK
            have HG := Lib.hid hG
            clear hK hd e3
            clear hG
            go_simp
            exact HK.out _ _ (Below.refl _ _) HG.out rfl
          · intro vs wx hG hd K hK
            have e4 : vs 4 = .pointer (some ⟨m, 0, none⟩) := hd.get (j := 4) (by simp [depsOf, Region.binds])
            replace hK : ∀ (uu : Value) (w' : World), Below wx.heap.size wx w' → ((Gd w m room fuse false A cap qs)) w' → eqV (.int .i64 room) uu w' → K _ w' := hK
            simp only [Act.put, List.setIfInBounds_toArray, List.set_cons_zero, List.set_cons_succ, e4] at hK ⊢
            have HK := Lib.hid hK
            have HG := Lib.hid hG
            clear hK hd e4
            have gc0 := HG.out.k.c0
            have gc1 := HG.out.c1
            clear hG
            go_simp
            exact HK.out _ _ (Below.refl _ _) HG.out rfl
          · intro vs wx hG hd K hK
            replace hK : ∀ (uu : Value) (w' : World), Below wx.heap.size wx w' → ((Gd w m room fuse false A cap qs)) w' → eqV (.pointer (some ⟨m, 0, none⟩)) uu w' → K _ w' := hK
            simp only [Act.put, List.setIfInBounds_toArray, List.set_cons_zero, List.set_cons_succ] at hK ⊢
            have HK := Lib.hid hK
            have HG := Lib.hid hG
            clear hK hd
            clear hG
            go_simp
            exact HK.out _ _ (Below.refl _ _) HG.out rfl
          · intro vs wx hG hd K hK
            have e6 : vs 6 = .pointer (some ⟨m, 0, none⟩) := hd.get (j := 6) (by simp [depsOf, Region.binds])
            replace hK : ∀ (uu : Value) (w' : World), Below wx.heap.size wx w' → ((Gd w m room fuse false A cap qs)) w' → eqV (.int .i64 (S : Int)) uu w' → K _ w' := hK
            simp only [Act.put, List.setIfInBounds_toArray, List.set_cons_zero, List.set_cons_succ, e6] at hK ⊢
            have HK := Lib.hid hK
            have HG := Lib.hid hG
            clear hK hd e6
            clear hG
            go_simp
            go_at_call 36
            refine (HU.out _ HG.out.k).mono ?_
            rintro e w9 ⟨rfl, hb⟩
            exact HK.out _ _ hb (HG.out.below hb) rfl
          · intro vs wx hG hd K hK
            have e5 : vs 5 = .int .i64 room := hd.get (j := 5) (by simp [depsOf, Region.binds])
            have e7 : vs 7 = .int .i64 (S : Int) := hd.get (j := 7) (by simp [depsOf, Region.binds])
            replace hK : ∀ (uu : Value) (w' : World), Below wx.heap.size wx w' → ((Gd w m room fuse false A cap qs)) w' → eqV (.int .i64 (room - S)) uu w' → K _ w' := hK
            simp only [Act.put, List.setIfInBounds_toArray, List.set_cons_zero, List.set_cons_succ, e5, e7] at hK ⊢
            have HK := Lib.hid hK
            have HG := Lib.hid hG
            clear hK hd e5 e7
            clear hG
            go_simp
            exact HK.out _ _ (Below.refl _ _) HG.out rfl
          · intro vs wx hG hd K hK
            have e1 : vs 1 = .int .i64 (p.length : Int) := hd.get (j := 1) (by simp [depsOf, Region.binds])
            have e8 : vs 8 = .int .i64 (room - S) := hd.get (j := 8) (by simp [depsOf, Region.binds])
            replace hK : ∀ (uu : Value) (w' : World), Below wx.heap.size wx w' → ((Gd w m room fuse false A cap qs)) w' → eqV (.bool true) uu w' → K _ w' := hK
            simp only [Act.put, List.setIfInBounds_toArray, List.set_cons_zero, List.set_cons_succ, e1, e8] at hK ⊢
            have HK := Lib.hid hK
            have HG := Lib.hid hG
            clear hK hd e1 e8
            clear hG
            go_simp
            exact HK.out _ _ (Below.refl _ _) HG.out rfl
          · intro vs wx hG hd K hK
            have e9 : vs 9 = .bool true := hd.get (j := 9) (by simp [depsOf, Region.binds])
            replace hK : ∀ (uu : Value) (w' : World), Below wx.heap.size wx w' → ((Gd w m room fuse false A cap qs)) w' → eqV (.bool true) uu w' → K _ w' := hK
            simp only [Act.put, List.setIfInBounds_toArray, List.set_cons_zero, List.set_cons_succ, e9] at hK ⊢
            have HK := Lib.hid hK
            have HG := Lib.hid hG
            clear hK hd e9
            clear hG
            go_simp
            exact HK.out _ _ (Below.refl _ _) HG.out rfl
          · intro vs wx hG hd K hK
            have e10 : vs 10 = .bool true := hd.get (j := 10) (by simp [depsOf, Region.binds])
            replace hK : ∀ (uu : Value) (w' : World), Below wx.heap.size wx w' → ((Gd w m room fuse false A cap qs)) w' → eqV (undef) uu w' → K _ w' := hK
            simp only [Act.put, List.setIfInBounds_toArray, List.set_cons_zero, List.set_cons_succ, e10] at hK ⊢
            have HK := Lib.hid hK
            have HG := Lib.hid hG
            clear hK hd e10
            clear hG
            go_simp
            exact HK.out _ _ (Below.refl _ _) HG.out rfl
          · intro vs wx hG hd K hK
            have e10 : vs 10 = .bool true := hd.get (j := 10) (by simp [depsOf, Region.binds])
            have e11 : vs 11 = undef := hd.get (j := 11) (by simp [depsOf, Region.binds])
            replace hK : ∀ (uu : Value) (w' : World), Below wx.heap.size wx w' → ((Gd w m room fuse false A cap qs)) w' → eqV (undef) uu w' → K _ w' := hK
            simp only [Act.put, List.setIfInBounds_toArray, List.set_cons_zero, List.set_cons_succ, e10, e11] at hK ⊢
            have HK := Lib.hid hK
            have HG := Lib.hid hG
            clear hK hd e10 e11
            clear hG
            go_simp
            exact HK.out _ _ (Below.refl _ _) HG.out rfl
          · intro vs wx hG hd K hK
            have e10 : vs 10 = .bool true := hd.get (j := 10) (by simp [depsOf, Region.binds])
            have e12 : vs 12 = undef := hd.get (j := 12) (by simp [depsOf, Region.binds])
            replace hK : ∀ (uu : Value) (w' : World), Below wx.heap.size wx w' → ((Gd w m room fuse false A cap qs)) w' → eqV (undef) uu w' → K _ w' := hK
            simp only [Act.put, List.setIfInBounds_toArray, List.set_cons_zero, List.set_cons_succ, e10, e12] at hK ⊢
            have HK := Lib.hid hK
            have HG := Lib.hid hG
            clear hK hd e10 e12
            clear hG
            go_simp
            exact HK.out _ _ (Below.refl _ _) HG.out rfl
          · intro vs wx hG hd K hK
            have e13 : vs 13 = undef := hd.get (j := 13) (by simp [depsOf, Region.binds])
            replace hK : ∀ (uu : Value) (w' : World), Below wx.heap.size wx w' → ((Gd w m room fuse false A cap qs)) w' → eqV (undef) uu w' → K _ w' := hK
            simp only [Act.put, List.setIfInBounds_toArray, List.set_cons_zero, List.set_cons_succ, e13] at hK ⊢
            have HK := Lib.hid hK
            have HG := Lib.hid hG
            clear hK hd e13
            clear hG
            go_simp
            exact HK.out _ _ (Below.refl _ _) HG.out rfl
          · intro vs wx hG hd K hK
            have e13 : vs 13 = undef := hd.get (j := 13) (by simp [depsOf, Region.binds])
            have e14 : vs 14 = undef := hd.get (j := 14) (by simp [depsOf, Region.binds])
            replace hK : ∀ (uu : Value) (w' : World), Below wx.heap.size wx w' → ((Gd w m room fuse false A cap qs)) w' → eqV (undef) uu w' → K _ w' := hK
            simp only [Act.put, List.setIfInBounds_toArray, List.set_cons_zero, List.set_cons_succ, e13, e14] at hK ⊢
            have HK := Lib.hid hK
            have HG := Lib.hid hG
            clear hK hd e13 e14
            clear hG
            go_simp
            exact HK.out _ _ (Below.refl _ _) HG.out rfl
          · intro vs wx hG hd K hK
            have e13 : vs 13 = undef := hd.get (j := 13) (by simp [depsOf, Region.binds])
            have e15 : vs 15 = undef := hd.get (j := 15) (by simp [depsOf, Region.binds])
            replace hK : ∀ (uu : Value) (w' : World), Below wx.heap.size wx w' → ((Gd w m room fuse false A cap qs)) w' → eqV (undef) uu w' → K _ w' := hK
            simp only [Act.put, List.setIfInBounds_toArray, List.set_cons_zero, List.set_cons_succ, e13, e15] at hK ⊢
            have HK := Lib.hid hK
            have HG := Lib.hid hG
            clear hK hd e13 e15
            clear hG
            go_simp
            exact HK.out _ _ (Below.refl _ _) HG.out rfl
          · intro vs wx hG hd K hK
            have e13 : vs 13 = undef := hd.get (j := 13) (by simp [depsOf, Region.binds])
            have e16 : vs 16 = undef := hd.get (j := 16) (by simp [depsOf, Region.binds])
            replace hK : ∀ (uu : Value) (w' : World), Below wx.heap.size wx w' → ((Gd w m room fuse false A cap qs)) w' → eqV (undef) uu w' → K _ w' := hK
            simp only [Act.put, List.setIfInBounds_toArray, List.set_cons_zero, List.set_cons_succ, e13, e16] at hK ⊢
            have HK := Lib.hid hK
            have HG := Lib.hid hG
            clear hK hd e13 e16
            have gc0 := HG.out.k.c0
            have gc1 := HG.out.c1
            clear hG
            go_simp
            exact HK.out _ _ (Below.refl _ _) HG.out rfl
          · intro vs wx hG hd K hK
            have e13 : vs 13 = undef := hd.get (j := 13) (by simp [depsOf, Region.binds])
            have e17 : vs 17 = undef := hd.get (j := 17) (by simp [depsOf, Region.binds])
            replace hK : ∀ (uu : Value) (w' : World), Below wx.heap.size wx w' → ((Gd w m room fuse false A cap qs)) w' → eqV (undef) uu w' → K _ w' := hK
            simp only [Act.put, List.setIfInBounds_toArray, List.set_cons_zero, List.set_cons_succ, e13, e17] at hK ⊢
            have HK := Lib.hid hK
            have HG := Lib.hid hG
            clear hK hd e13 e17
            clear hG
            go_simp
            exact HK.out _ _ (Below.refl _ _) HG.out rfl
          · intro vs wx hG hd K hK
            have e13 : vs 13 = undef := hd.get (j := 13) (by simp [depsOf, Region.binds])
            have e18 : vs 18 = undef := hd.get (j := 18) (by simp [depsOf, Region.binds])
            replace hK : ∀ (uu : Value) (w' : World), Below wx.heap.size wx w' → ((Gd w m room fuse false A cap qs)) w' → eqV (undef) uu w' → K _ w' := hK
            simp only [Act.put, List.setIfInBounds_toArray, List.set_cons_zero, List.set_cons_succ, e13, e18] at hK ⊢
            have HK := Lib.hid hK
            have HG := Lib.hid hG
            clear hK hd e13 e18
            clear hG
            go_simp
            exact HK.out _ _ (Below.refl _ _) HG.out rfl
          · intro vs wx hG hd K hK
            have e10 : vs 10 = .bool true := hd.get (j := 10) (by simp [depsOf, Region.binds])
            have e13 : vs 13 = undef := hd.get (j := 13) (by simp [depsOf, Region.binds])
            have e19 : vs 19 = undef := hd.get (j := 19) (by simp [depsOf, Region.binds])
            replace hK : ∀ (uu : Value) (w' : World), Below wx.heap.size wx w' → ((Gd w m room fuse false A cap qs)) w' → eqV (undef) uu w' → K _ w' := hK
            simp only [Act.put, List.setIfInBounds_toArray, List.set_cons_zero, List.set_cons_succ, e10, e13, e19] at hK ⊢
            have HK := Lib.hid hK
            have HG := Lib.hid hG
            clear hK hd e10 e13 e19
            clear hG
            go_simp
            exact HK.out _ _ (Below.refl _ _) HG.out rfl
          · intro vs wx hG hd K hK
            have e10 : vs 10 = .bool true := hd.get (j := 10) (by simp [depsOf, Region.binds])
            have e20 : vs 20 = undef := hd.get (j := 20) (by simp [depsOf, Region.binds])
            replace hK : ∀ (uu : Value) (w' : World), Below wx.heap.size wx w' → ((Gd w m room fuse false A cap qs)) w' → eqV (.bool true) uu w' → K _ w' := hK
            simp only [Act.put, List.setIfInBounds_toArray, List.set_cons_zero, List.set_cons_succ, e10, e20] at hK ⊢
            have HK := Lib.hid hK
            have HG := Lib.hid hG
            clear hK hd e10 e20
            clear hG
            go_simp
            exact HK.out _ _ (Below.refl _ _) HG.out rfl
        case hend =>
          intro vs wx hG hv
          have e21 := hv 21 (by decide)
          replace e21 : vs 21 = .bool true := e21
          rw [e21]
          have HG := Lib.hid hG
          clear hv e21 hG
          have HR := Lib.hid (RD.turned (a' := ⟨room, fuse, false, qs.map Rq.x⟩) HB.out HG.out.k rfl (Tn.ofNew HG.out.bel) (fun _ h => .inl h) 4)
          clear HG
          go_wp2_with fail
          go_ret
          exact HR.out
      rw [if_neg hfull, if_neg (fun h => by cases h.1)] at hr
      obtain ⟨q, hiq, hqx⟩ : ∃ q, qs[i]? = some q ∧ q.x = x := by
        rw [List.getElem?_map] at hx
        cases hq : qs[i]? with
        | none => rw [hq] at hx; cases hx
        | some q => rw [hq] at hx; exact ⟨q, rfl, by simpa using hx⟩
      subst hqx
      have hqb : q.x.b.length ≤ 67108864 := by
        have h1 := sum_next (qs := qs) (k := i) (List.getElem?_eq_some_iff.1 hiq).1
        have h2 := sum_take (qs := qs) (i + 1)
        rw [(List.getElem?_eq_some_iff.1 hiq).2] at h1
        have := HSS.out
        omega
      have hrl : qs.length ≤ 1025 := by omega
      have HE := Lib.hid (put_at (p := p) HRI.out hx hxn)
      have b9 : decide (room - S < (p.length : Int)) = false := by simpa using hfull
      have hpb : p.length ≤ 67108864 := by omega
      clear hf hh hx hxn
      go_enter Try.func20, Try.ntmps20
      go_wp2_with fail
      go_at_call 40
      refine HF.out.mono ?_
      rintro _ w9 ⟨rfl, hw9⟩
      replace hw9 := hw9.symm
      subst hw9
      go_wp2_with fail
      apply region_V eqV (Gd w m room fuse false A cap qs) [.slice PA p.length pc, .int .i64 (p.length : Int), .pointer (some ⟨m, 0, none⟩), .pointer (some ⟨m, 0, none⟩), .pointer (some ⟨m, 0, none⟩), .int .i64 room, .pointer (some ⟨m, 0, none⟩), .int .i64 (S : Int), .int .i64 (room - S), .bool false, .bool false, .int .i64 (i : Int), .bool false, .bool false, undef, undef, undef, undef, undef, undef, .bool false, .bool false] (undef)
      case mono => exact fun p v w0 w9 h hb => h
      case hm => kernel_rfl
      case hf => kernel_rfl
      case hQ => exact (by intro c x y w e h; exact And.intro (e.symm.trans (And.left h)) (And.right h))
      case hF => intro vs; simp only [putAll, Act.put, List.setIfInBounds_toArray, List.set_cons_zero, List.set_cons_succ, Nat.reduceAdd]; rfl
      case h0 => exact ⟨HD.out.below ⟨rfl, rfl, rfl, Nat.le_refl _, fun _ _ => rfl⟩, ⟨rfl, rfl, rfl, Nat.le_refl _, fun _ _ => rfl⟩⟩
      case hstep =>
        repeat' (first | exact AllOps.nil | apply AllOps.cons)
        · intro vs wx hG hd K hK
          replace hK : ∀ (uu : Value) (w' : World), Below wx.heap.size wx w' → ((Gd w m room fuse false A cap qs)) w' → eqV (.slice PA p.length pc) uu w' → K _ w' := hK
          simp only [Act.put, List.setIfInBounds_toArray, List.set_cons_zero, List.set_cons_succ] at hK ⊢
          have HK := Lib.hid hK
          have HG := Lib.hid hG
          clear hK hd
          clear hG
          go_simp
          exact HK.out _ _ (Below.refl _ _) HG.out rfl
        · intro vs wx hG hd K hK
          have e0 : vs 0 = .slice PA p.length pc := hd.get (j := 0) (by simp [depsOf, Region.binds])
          replace hK : ∀ (uu : Value) (w' : World), Below wx.heap.size wx w' → ((Gd w m room fuse false A cap qs)) w' → eqV (.int .i64 (p.length : Int)) uu w' → K _ w' := hK
          simp only [Act.put, List.setIfInBounds_toArray, List.set_cons_zero, List.set_cons_succ, e0] at hK ⊢
          have HK := Lib.hid hK
          have HG := Lib.hid hG
          clear hK hd e0
          clear hG
          go_simp
          exact HK.out _ _ (Below.refl _ _) HG.out rfl
        · intro vs wx hG hd K hK
          replace hK : ∀ (uu : Value) (w' : World), Below wx.heap.size wx w' → ((Gd w m room fuse false A cap qs)) w' → eqV (.pointer (some ⟨m, 0, none⟩)) uu w' → K _ w' := hK
          simp only [Act.put, List.setIfInBounds_toArray, List.set_cons_zero, List.set_cons_succ] at hK ⊢
          have HK := Lib.hid hK
          have HG := Lib.hid hG
          clear hK hd
          clear hG
          go_simp
          exact HK.out _ _ (Below.refl _ _) HG.out rfl
        · intro vs wx hG hd K hK
          have e2 : vs 2 = .pointer (some ⟨m, 0, none⟩) := hd.get (j := 2) (by simp [depsOf, Region.binds])
          replace hK : ∀ (uu : Value) (w' : World), Below wx.heap.size wx w' → ((Gd w m room fuse false A cap qs)) w' → eqV (.pointer (some ⟨m, 0, none⟩)) uu w' → K _ w' := hK
          simp only [Act.put, List.setIfInBounds_toArray, List.set_cons_zero, List.set_cons_succ, e2] at hK ⊢
          have HK := Lib.hid hK
          have HG := Lib.hid hG
          clear hK hd e2
          clear hG
          go_simp
          exact HK.out _ _ (Below.refl _ _) HG.out rfl
        · intro vs wx hG hd K hK
          have e3 : vs 3 = .pointer (some ⟨m, 0, none⟩) := hd.get (j := 3) (by simp [depsOf, Region.binds])
          replace hK : ∀ (uu : Value) (w' : World), Below wx.heap.size wx w' → ((Gd w m room fuse false A cap qs)) w' → eqV (.pointer (some ⟨m, 0, none⟩)) uu w' → K _ w' := hK
          simp only [Act.put, List.setIfInBounds_toArray, List.set_cons_zero, List.set_cons_succ, e3] at hK ⊢
          have HK := Lib.hid hK
          have HG := Lib.hid hG
          clear hK hd e3
          clear hG
          go_simp
          exact HK.out _ _ (Below.refl _ _) HG.out rfl
        · intro vs wx hG hd K hK
          have e4 : vs 4 = .pointer (some ⟨m, 0, none⟩) := hd.get (j := 4) (by simp [depsOf, Region.binds])
          replace hK : ∀ (uu : Value) (w' : World), Below wx.heap.size wx w' → ((Gd w m room fuse false A cap qs)) w' → eqV (.int .i64 room) uu w' → K _ w' := hK
          simp only [Act.put, List.setIfInBounds_toArray, List.set_cons_zero, List.set_cons_succ, e4] at hK ⊢
          have HK := Lib.hid hK
          have HG := Lib.hid hG
          clear hK hd e4
          have gc0 := HG.out.k.c0
          have gc1 := HG.out.c1
          clear hG
          go_simp
          exact HK.out _ _ (Below.refl _ _) HG.out rfl
        · intro vs wx hG hd K hK
          replace hK : ∀ (uu : Value) (w' : World), Below wx.heap.size wx w' → ((Gd w m room fuse false A cap qs)) w' → eqV (.pointer (some ⟨m, 0, none⟩)) uu w' → K _ w' := hK
          simp only [Act.put, List.setIfInBounds_toArray, List.set_cons_zero, List.set_cons_succ] at hK ⊢
          have HK := Lib.hid hK
          have HG := Lib.hid hG
          clear hK hd
          clear hG
          go_simp
          exact HK.out _ _ (Below.refl _ _) HG.out rfl
        · intro vs wx hG hd K hK
          have e6 : vs 6 = .pointer (some ⟨m, 0, none⟩) := hd.get (j := 6) (by simp [depsOf, Region.binds])
          replace hK : ∀ (uu : Value) (w' : World), Below wx.heap.size wx w' → ((Gd w m room fuse false A cap qs)) w' → eqV (.int .i64 (S : Int)) uu w' → K _ w' := hK
          simp only [Act.put, List.setIfInBounds_toArray, List.set_cons_zero, List.set_cons_succ, e6] at hK ⊢
          have HK := Lib.hid hK
          have HG := Lib.hid hG
          clear hK hd e6
          clear hG
          go_simp
          go_at_call 36
          refine (HU.out _ HG.out.k).mono ?_
          rintro e w9 ⟨rfl, hb⟩
          exact HK.out _ _ hb (HG.out.below hb) rfl
        · intro vs wx hG hd K hK
          have e5 : vs 5 = .int .i64 room := hd.get (j := 5) (by simp [depsOf, Region.binds])
          have e7 : vs 7 = .int .i64 (S : Int) := hd.get (j := 7) (by simp [depsOf, Region.binds])
          replace hK : ∀ (uu : Value) (w' : World), Below wx.heap.size wx w' → ((Gd w m room fuse false A cap qs)) w' → eqV (.int .i64 (room - S)) uu w' → K _ w' := hK
          simp only [Act.put, List.setIfInBounds_toArray, List.set_cons_zero, List.set_cons_succ, e5, e7] at hK ⊢
          have HK := Lib.hid hK
          have HG := Lib.hid hG
          clear hK hd e5 e7
          clear hG
          go_simp
          exact HK.out _ _ (Below.refl _ _) HG.out rfl
        · intro vs wx hG hd K hK
          have e1 : vs 1 = .int .i64 (p.length : Int) := hd.get (j := 1) (by simp [depsOf, Region.binds])
          have e8 : vs 8 = .int .i64 (room - S) := hd.get (j := 8) (by simp [depsOf, Region.binds])
          replace hK : ∀ (uu : Value) (w' : World), Below wx.heap.size wx w' → ((Gd w m room fuse false A cap qs)) w' → eqV (.bool false) uu w' → K _ w' := hK
          simp only [Act.put, List.setIfInBounds_toArray, List.set_cons_zero, List.set_cons_succ, e1, e8] at hK ⊢
          have HK := Lib.hid hK
          have HG := Lib.hid hG
          clear hK hd e1 e8
          clear hG
          go_simp
          exact HK.out _ _ (Below.refl _ _) HG.out rfl
        · intro vs wx hG hd K hK
          have e9 : vs 9 = .bool false := hd.get (j := 9) (by simp [depsOf, Region.binds])
          replace hK : ∀ (uu : Value) (w' : World), Below wx.heap.size wx w' → ((Gd w m room fuse false A cap qs)) w' → eqV (.bool false) uu w' → K _ w' := hK
          simp only [Act.put, List.setIfInBounds_toArray, List.set_cons_zero, List.set_cons_succ, e9] at hK ⊢
          have HK := Lib.hid hK
          have HG := Lib.hid hG
          clear hK hd e9
          clear hG
          go_simp
          exact HK.out _ _ (Below.refl _ _) HG.out rfl
        · intro vs wx hG hd K hK
          have e10 : vs 10 = .bool false := hd.get (j := 10) (by simp [depsOf, Region.binds])
          replace hK : ∀ (uu : Value) (w' : World), Below wx.heap.size wx w' → ((Gd w m room fuse false A cap qs)) w' → eqV (.int .i64 (i : Int)) uu w' → K _ w' := hK
          simp only [Act.put, List.setIfInBounds_toArray, List.set_cons_zero, List.set_cons_succ, e10] at hK ⊢
          have HK := Lib.hid hK
          have HG := Lib.hid hG
          clear hK hd e10
          clear hG
          go_simp
          exact HK.out _ _ (Below.refl _ _) HG.out rfl
        · intro vs wx hG hd K hK
          have e10 : vs 10 = .bool false := hd.get (j := 10) (by simp [depsOf, Region.binds])
          have e11 : vs 11 = .int .i64 (i : Int) := hd.get (j := 11) (by simp [depsOf, Region.binds])
          replace hK : ∀ (uu : Value) (w' : World), Below wx.heap.size wx w' → ((Gd w m room fuse false A cap qs)) w' → eqV (.bool false) uu w' → K _ w' := hK
          simp only [Act.put, List.setIfInBounds_toArray, List.set_cons_zero, List.set_cons_succ, e10, e11] at hK ⊢
          have HK := Lib.hid hK
          have HG := Lib.hid hG
          clear hK hd e10 e11
          clear hG
          go_simp
          exact HK.out _ _ (Below.refl _ _) HG.out rfl
        · intro vs wx hG hd K hK
          have e10 : vs 10 = .bool false := hd.get (j := 10) (by simp [depsOf, Region.binds])
          have e12 : vs 12 = .bool false := hd.get (j := 12) (by simp [depsOf, Region.binds])
          replace hK : ∀ (uu : Value) (w' : World), Below wx.heap.size wx w' → ((Gd w m room fuse false A cap qs)) w' → eqV (.bool false) uu w' → K _ w' := hK
          simp only [Act.put, List.setIfInBounds_toArray, List.set_cons_zero, List.set_cons_succ, e10, e12] at hK ⊢
          have HK := Lib.hid hK
          have HG := Lib.hid hG
          clear hK hd e10 e12
          clear hG
          go_simp
          exact HK.out _ _ (Below.refl _ _) HG.out rfl
        · intro vs wx hG hd K hK
          have e13 : vs 13 = .bool false := hd.get (j := 13) (by simp [depsOf, Region.binds])
          replace hK : ∀ (uu : Value) (w' : World), Below wx.heap.size wx w' → ((Gd w m room fuse false A cap qs)) w' → eqV (undef) uu w' → K _ w' := hK
          simp only [Act.put, List.setIfInBounds_toArray, List.set_cons_zero, List.set_cons_succ, e13] at hK ⊢
          have HK := Lib.hid hK
          have HG := Lib.hid hG
          clear hK hd e13
          clear hG
          go_simp
          exact HK.out _ _ (Below.refl _ _) HG.out rfl
        · intro vs wx hG hd K hK
          have e13 : vs 13 = .bool false := hd.get (j := 13) (by simp [depsOf, Region.binds])
          have e14 : vs 14 = undef := hd.get (j := 14) (by simp [depsOf, Region.binds])
          replace hK : ∀ (uu : Value) (w' : World), Below wx.heap.size wx w' → ((Gd w m room fuse false A cap qs)) w' → eqV (undef) uu w' → K _ w' := hK
          simp only [Act.put, List.setIfInBounds_toArray, List.set_cons_zero, List.set_cons_succ, e13, e14] at hK ⊢
          have HK := Lib.hid hK
          have HG := Lib.hid hG
          clear hK hd e13 e14
          clear hG
          go_simp
          exact HK.out _ _ (Below.refl _ _) HG.out rfl
        · intro vs wx hG hd K hK
          have e13 : vs 13 = .bool false := hd.get (j := 13) (by simp [depsOf, Region.binds])
          have e15 : vs 15 = undef := hd.get (j := 15) (by simp [depsOf, Region.binds])
          replace hK : ∀ (uu : Value) (w' : World), Below wx.heap.size wx w' → ((Gd w m room fuse false A cap qs)) w' → eqV (undef) uu w' → K _ w' := hK
          simp only [Act.put, List.setIfInBounds_toArray, List.set_cons_zero, List.set_cons_succ, e13, e15] at hK ⊢
          have HK := Lib.hid hK
          have HG := Lib.hid hG
          clear hK hd e13 e15
          clear hG
          go_simp
          exact HK.out _ _ (Below.refl _ _) HG.out rfl
        · intro vs wx hG hd K hK
          have e13 : vs 13 = .bool false := hd.get (j := 13) (by simp [depsOf, Region.binds])
          have e16 : vs 16 = undef := hd.get (j := 16) (by simp [depsOf, Region.binds])
          replace hK : ∀ (uu : Value) (w' : World), Below wx.heap.size wx w' → ((Gd w m room fuse false A cap qs)) w' → eqV (undef) uu w' → K _ w' := hK
          simp only [Act.put, List.setIfInBounds_toArray, List.set_cons_zero, List.set_cons_succ, e13, e16] at hK ⊢
          have HK := Lib.hid hK
          have HG := Lib.hid hG
          clear hK hd e13 e16
          have gc0 := HG.out.k.c0
          have gc1 := HG.out.c1
          clear hG
          go_simp
          exact HK.out _ _ (Below.refl _ _) HG.out rfl
        · intro vs wx hG hd K hK
          have e13 : vs 13 = .bool false := hd.get (j := 13) (by simp [depsOf, Region.binds])
          have e17 : vs 17 = undef := hd.get (j := 17) (by simp [depsOf, Region.binds])
          replace hK : ∀ (uu : Value) (w' : World), Below wx.heap.size wx w' → ((Gd w m room fuse false A cap qs)) w' → eqV (undef) uu w' → K _ w' := hK
          simp only [Act.put, List.setIfInBounds_toArray, List.set_cons_zero, List.set_cons_succ, e13, e17] at hK ⊢
          have HK := Lib.hid hK
          have HG := Lib.hid hG
          clear hK hd e13 e17
          clear hG
          go_simp
          exact HK.out _ _ (Below.refl _ _) HG.out rfl
        · intro vs wx hG hd K hK
          have e13 : vs 13 = .bool false := hd.get (j := 13) (by simp [depsOf, Region.binds])
          have e18 : vs 18 = undef := hd.get (j := 18) (by simp [depsOf, Region.binds])
          replace hK : ∀ (uu : Value) (w' : World), Below wx.heap.size wx w' → ((Gd w m room fuse false A cap qs)) w' → eqV (undef) uu w' → K _ w' := hK
          simp only [Act.put, List.setIfInBounds_toArray, List.set_cons_zero, List.set_cons_succ, e13, e18] at hK ⊢
          have HK := Lib.hid hK
          have HG := Lib.hid hG
          clear hK hd e13 e18
          clear hG
          go_simp
          exact HK.out _ _ (Below.refl _ _) HG.out rfl
        · intro vs wx hG hd K hK
          have e10 : vs 10 = .bool false := hd.get (j := 10) (by simp [depsOf, Region.binds])
          have e13 : vs 13 = .bool false := hd.get (j := 13) (by simp [depsOf, Region.binds])
          have e19 : vs 19 = undef := hd.get (j := 19) (by simp [depsOf, Region.binds])
          replace hK : ∀ (uu : Value) (w' : World), Below wx.heap.size wx w' → ((Gd w m room fuse false A cap qs)) w' → eqV (.bool false) uu w' → K _ w' := hK
          simp only [Act.put, List.setIfInBounds_toArray, List.set_cons_zero, List.set_cons_succ, e10, e13, e19] at hK ⊢
          have HK := Lib.hid hK
          have HG := Lib.hid hG
          clear hK hd e10 e13 e19
          clear hG
          go_simp
          exact HK.out _ _ (Below.refl _ _) HG.out rfl
        · intro vs wx hG hd K hK
          have e10 : vs 10 = .bool false := hd.get (j := 10) (by simp [depsOf, Region.binds])
          have e20 : vs 20 = .bool false := hd.get (j := 20) (by simp [depsOf, Region.binds])
          replace hK : ∀ (uu : Value) (w' : World), Below wx.heap.size wx w' → ((Gd w m room fuse false A cap qs)) w' → eqV (.bool false) uu w' → K _ w' := hK
          simp only [Act.put, List.setIfInBounds_toArray, List.set_cons_zero, List.set_cons_succ, e10, e20] at hK ⊢
          have HK := Lib.hid hK
          have HG := Lib.hid hG
          clear hK hd e10 e20
          clear hG
          go_simp
          exact HK.out _ _ (Below.refl _ _) HG.out rfl
      case hend =>
        intro vs wx hG hv
        have e21 := hv 21 (by decide)
        replace e21 : vs 21 = .bool false := e21
        rw [e21]
        have HG := Lib.hid hG
        clear hv e21 hG
        by_cases hz : fuse = 0
        · subst hz
          rw [if_pos rfl] at hr
          cases hr
          have HP := Lib.hid (rpow_no HG.out.k)
          go_wp2_with fail
          go_at_call 41
          refine HP.out.mono ?_
          rintro _ w1 ⟨rfl, D1, t1⟩
          have HR := Lib.hid (RD.turned (a' := ⟨room, 0, true, qs.map Rq.x⟩) HB.out D1 rfl ((Tn.ofNew HG.out.bel).then (t1.mono fun _ _ h => .inl h)) (fun _ h => .inl h) 5)
          clear D1 t1 HP HG
          go_wp2_with fail
          go_ret
          exact HR.out
        · rw [if_neg hz] at hr
          cases hr
          have HP := Lib.hid (rpow_yes HG.out.k hz hf1 hf2)
          clear hz
          go_wp2_with fail
          go_at_call 41
          refine HP.out.mono ?_
          rintro _ w1 ⟨rfl, D1, t1⟩
          have HD0 := Lib.hid D1
          have HT1 := Lib.hid ((Tn.ofNew (P := fK m A cap qs) HG.out.bel).then (t1.mono fun _ _ h => .inl h))
          have HPB := Lib.hid (HPX.out w1 HT1.out)
          clear D1 t1 HP HG
          obtain ⟨rs, hrs⟩ : ∃ rs, rs = qs := ⟨_, rfl⟩
          have HD1 := Lib.hid (hrs ▸ HD0.out : RK w1 m room (fz fuse) false A cap rs)
          rw [← hrs] at hiq
          obtain ⟨g, hg⟩ := HD1.out.addr (by have := (List.getElem?_eq_some_iff.1 hiq).1; omega)
          subst hg
          have HRS := Lib.hid hrs
          clear hrs
          have hle := (HD1.out.so.sr encQ_len).1.le
          have hmx := (HD1.out.so.sr encQ_len).1.max
          unfold maxLen at hmx
          have hq := HD1.out.gq q (List.mem_of_getElem? hiq)
          have hl2 : (q.x.b.drop q.x.l).length = q.x.b.length - q.x.l := List.length_drop
          obtain ⟨L9, hL9⟩ : ∃ L9, L9 = q.x.b.drop q.x.l ++ p := ⟨_, rfl⟩
          have HL9 := Lib.hid hL9
          have HJ := Lib.hid (fun (W : World) (hW : Below w1.heap.size w1 W) => by
            have := rjoin_any (w := W) ((hq.b2.below hW)) ((HPB.out.below hW)) hW.size (by rw [hl2]; omega) (by omega) hL9
            rw [hl2] at this
            exact this)
          have ix1 : (i : Int) < rs.length := by have := (List.getElem?_eq_some_iff.1 hiq).1; omega
          clear hq hl2 hL9
          go_wp2_with fail
          apply region_VS (Hb w1) (Gd w1 m room (fz fuse) false (some ⟨g, 0, none⟩) cap rs) (Es w1 m room (fz fuse) false g cap rs i ⟨q.x.n, q.x.b ++ p, q.x.l, q.x.k⟩) 17 [.inl (.pointer (some ⟨m, 0, none⟩)), .inl (.pointer (some ⟨m, 0, none⟩)), .inl (.pointer (some ⟨m, 1, none⟩)), .inl (.slice (some ⟨g, 0, none⟩) rs.length cap), .inl (.int .i64 (i : Int)), .inl (.pointer (some ⟨m, 0, none⟩)), .inl (.pointer (some ⟨m, 0, none⟩)), .inl (.pointer (some ⟨m, 1, none⟩)), .inl (.slice (some ⟨g, 0, none⟩) rs.length cap), .inl (.int .i64 (i : Int)), .inl (.pointer (some ⟨g, i * 4, none⟩)), .inl (.pointer (some ⟨g, i * 4 + 2, none⟩)), .inl (.slice q.B (q.x.b.length - q.x.l) q.d), .inl (.slice PA p.length pc), .inr L9, .inl (.pointer (some ⟨g, i * 4, none⟩)), .inl (.pointer (some ⟨g, i * 4 + 2, none⟩)), .inl undef] (.inl undef)
          case mono => exact fun p v w0 w9 h hb => Hb.mono h hb
          case hl => kernel_rfl
          case hm => kernel_rfl
          case hf => kernel_rfl
          case hQ => exact (by intro c x y w e h; exact And.intro (e.symm.trans (And.left h)) (And.right h))
          case hF => intro vs; simp only [putAll, Act.put, List.setIfInBounds_toArray, List.set_cons_zero, List.set_cons_succ, Nat.reduceAdd]; rfl
          case h0 => exact ⟨HD1.out.below ⟨rfl, rfl, rfl, Nat.le_refl _, fun _ _ => rfl⟩, ⟨rfl, rfl, rfl, Nat.le_refl _, fun _ _ => rfl⟩⟩
          case hstep =>
            repeat' (first | exact AllOps.nil | apply AllOps.cons)
            · intro vs wx hG hd K hK
              replace hK : ∀ (uu : Value) (w' : World), Below wx.heap.size wx w' → ((Gd w1 m room (fz fuse) false (some ⟨g, 0, none⟩) cap rs)) w' → (Hb w1) (.inl (.pointer (some ⟨m, 0, none⟩))) uu w' → K _ w' := hK
              simp only [Act.put, List.setIfInBounds_toArray, List.set_cons_zero, List.set_cons_succ] at hK ⊢
              have HK := Lib.hid hK
              have HG := Lib.hid hG
              clear hK hd
              clear hG
              go_simp
              exact HK.out _ _ (Below.refl _ _) HG.out rfl
            · intro vs wx hG hd K hK
              have e0 : vs 0 = .pointer (some ⟨m, 0, none⟩) := hd.get (j := 0) (by simp [depsOf, Region.binds])
              replace hK : ∀ (uu : Value) (w' : World), Below wx.heap.size wx w' → ((Gd w1 m room (fz fuse) false (some ⟨g, 0, none⟩) cap rs)) w' → (Hb w1) (.inl (.pointer (some ⟨m, 0, none⟩))) uu w' → K _ w' := hK
              simp only [Act.put, List.setIfInBounds_toArray, List.set_cons_zero, List.set_cons_succ, e0] at hK ⊢
              have HK := Lib.hid hK
              have HG := Lib.hid hG
              clear hK hd e0
              clear hG
              go_simp
              exact HK.out _ _ (Below.refl _ _) HG.out rfl
            · intro vs wx hG hd K hK
              have e1 : vs 1 = .pointer (some ⟨m, 0, none⟩) := hd.get (j := 1) (by simp [depsOf, Region.binds])
              replace hK : ∀ (uu : Value) (w' : World), Below wx.heap.size wx w' → ((Gd w1 m room (fz fuse) false (some ⟨g, 0, none⟩) cap rs)) w' → (Hb w1) (.inl (.pointer (some ⟨m, 1, none⟩))) uu w' → K _ w' := hK
              simp only [Act.put, List.setIfInBounds_toArray, List.set_cons_zero, List.set_cons_succ, e1] at hK ⊢
              have HK := Lib.hid hK
              have HG := Lib.hid hG
              clear hK hd e1
              clear hG
              go_simp
              exact HK.out _ _ (Below.refl _ _) HG.out rfl
            · intro vs wx hG hd K hK
              have e2 : vs 2 = .pointer (some ⟨m, 1, none⟩) := hd.get (j := 2) (by simp [depsOf, Region.binds])
              replace hK : ∀ (uu : Value) (w' : World), Below wx.heap.size wx w' → ((Gd w1 m room (fz fuse) false (some ⟨g, 0, none⟩) cap rs)) w' → (Hb w1) (.inl (.slice (some ⟨g, 0, none⟩) rs.length cap)) uu w' → K _ w' := hK
              simp only [Act.put, List.setIfInBounds_toArray, List.set_cons_zero, List.set_cons_succ, e2] at hK ⊢
              have HK := Lib.hid hK
              have HG := Lib.hid hG
              clear hK hd e2
              have gc1 := HG.out.c1
              obtain ⟨gs, _⟩ := HG.out.slot hiq
              have gs2 := gs 2 _ rfl
              clear hG gs
              go_simp
              exact HK.out _ _ (Below.refl _ _) HG.out rfl
            · intro vs wx hG hd K hK
              replace hK : ∀ (uu : Value) (w' : World), Below wx.heap.size wx w' → ((Gd w1 m room (fz fuse) false (some ⟨g, 0, none⟩) cap rs)) w' → (Hb w1) (.inl (.int .i64 (i : Int))) uu w' → K _ w' := hK
              simp only [Act.put, List.setIfInBounds_toArray, List.set_cons_zero, List.set_cons_succ] at hK ⊢
              have HK := Lib.hid hK
              have HG := Lib.hid hG
              clear hK hd
              clear hG
              go_simp
              exact HK.out _ _ (Below.refl _ _) HG.out rfl
            · intro vs wx hG hd K hK
              replace hK : ∀ (uu : Value) (w' : World), Below wx.heap.size wx w' → ((Gd w1 m room (fz fuse) false (some ⟨g, 0, none⟩) cap rs)) w' → (Hb w1) (.inl (.pointer (some ⟨m, 0, none⟩))) uu w' → K _ w' := hK
              simp only [Act.put, List.setIfInBounds_toArray, List.set_cons_zero, List.set_cons_succ] at hK ⊢
              have HK := Lib.hid hK
              have HG := Lib.hid hG
              clear hK hd
              clear hG
              go_simp
              exact HK.out _ _ (Below.refl _ _) HG.out rfl
            · intro vs wx hG hd K hK
              have e5 : vs 5 = .pointer (some ⟨m, 0, none⟩) := hd.get (j := 5) (by simp [depsOf, Region.binds])
              replace hK : ∀ (uu : Value) (w' : World), Below wx.heap.size wx w' → ((Gd w1 m room (fz fuse) false (some ⟨g, 0, none⟩) cap rs)) w' → (Hb w1) (.inl (.pointer (some ⟨m, 0, none⟩))) uu w' → K _ w' := hK
              simp only [Act.put, List.setIfInBounds_toArray, List.set_cons_zero, List.set_cons_succ, e5] at hK ⊢
              have HK := Lib.hid hK
              have HG := Lib.hid hG
              clear hK hd e5
              clear hG
              go_simp
              exact HK.out _ _ (Below.refl _ _) HG.out rfl
            · intro vs wx hG hd K hK
              have e6 : vs 6 = .pointer (some ⟨m, 0, none⟩) := hd.get (j := 6) (by simp [depsOf, Region.binds])
              replace hK : ∀ (uu : Value) (w' : World), Below wx.heap.size wx w' → ((Gd w1 m room (fz fuse) false (some ⟨g, 0, none⟩) cap rs)) w' → (Hb w1) (.inl (.pointer (some ⟨m, 1, none⟩))) uu w' → K _ w' := hK
              simp only [Act.put, List.setIfInBounds_toArray, List.set_cons_zero, List.set_cons_succ, e6] at hK ⊢
              have HK := Lib.hid hK
              have HG := Lib.hid hG
              clear hK hd e6
              clear hG
              go_simp
              exact HK.out _ _ (Below.refl _ _) HG.out rfl
            · intro vs wx hG hd K hK
              have e7 : vs 7 = .pointer (some ⟨m, 1, none⟩) := hd.get (j := 7) (by simp [depsOf, Region.binds])
              replace hK : ∀ (uu : Value) (w' : World), Below wx.heap.size wx w' → ((Gd w1 m room (fz fuse) false (some ⟨g, 0, none⟩) cap rs)) w' → (Hb w1) (.inl (.slice (some ⟨g, 0, none⟩) rs.length cap)) uu w' → K _ w' := hK
              simp only [Act.put, List.setIfInBounds_toArray, List.set_cons_zero, List.set_cons_succ, e7] at hK ⊢
              have HK := Lib.hid hK
              have HG := Lib.hid hG
              clear hK hd e7
              have gc1 := HG.out.c1
              obtain ⟨gs, _⟩ := HG.out.slot hiq
              have gs2 := gs 2 _ rfl
              clear hG gs
              go_simp
              exact HK.out _ _ (Below.refl _ _) HG.out rfl
            · intro vs wx hG hd K hK
              replace hK : ∀ (uu : Value) (w' : World), Below wx.heap.size wx w' → ((Gd w1 m room (fz fuse) false (some ⟨g, 0, none⟩) cap rs)) w' → (Hb w1) (.inl (.int .i64 (i : Int))) uu w' → K _ w' := hK
              simp only [Act.put, List.setIfInBounds_toArray, List.set_cons_zero, List.set_cons_succ] at hK ⊢
              have HK := Lib.hid hK
              have HG := Lib.hid hG
              clear hK hd
              clear hG
              go_simp
              exact HK.out _ _ (Below.refl _ _) HG.out rfl
            · intro vs wx hG hd K hK
              have e8 : vs 8 = .slice (some ⟨g, 0, none⟩) rs.length cap := hd.get (j := 8) (by simp [depsOf, Region.binds])
              have e9 : vs 9 = .int .i64 (i : Int) := hd.get (j := 9) (by simp [depsOf, Region.binds])
              replace hK : ∀ (uu : Value) (w' : World), Below wx.heap.size wx w' → ((Gd w1 m room (fz fuse) false (some ⟨g, 0, none⟩) cap rs)) w' → (Hb w1) (.inl (.pointer (some ⟨g, i * 4, none⟩))) uu w' → K _ w' := hK
              simp only [Act.put, List.setIfInBounds_toArray, List.set_cons_zero, List.set_cons_succ, e8, e9] at hK ⊢
              have HK := Lib.hid hK
              have HG := Lib.hid hG
              clear hK hd e8 e9
              clear hG
              go_simp
              exact HK.out _ _ (Below.refl _ _) HG.out rfl
            · intro vs wx hG hd K hK
              have e10 : vs 10 = .pointer (some ⟨g, i * 4, none⟩) := hd.get (j := 10) (by simp [depsOf, Region.binds])
              replace hK : ∀ (uu : Value) (w' : World), Below wx.heap.size wx w' → ((Gd w1 m room (fz fuse) false (some ⟨g, 0, none⟩) cap rs)) w' → (Hb w1) (.inl (.pointer (some ⟨g, i * 4 + 2, none⟩))) uu w' → K _ w' := hK
              simp only [Act.put, List.setIfInBounds_toArray, List.set_cons_zero, List.set_cons_succ, e10] at hK ⊢
              have HK := Lib.hid hK
              have HG := Lib.hid hG
              clear hK hd e10
              clear hG
              go_simp
              exact HK.out _ _ (Below.refl _ _) HG.out rfl
            · intro vs wx hG hd K hK
              have e11 : vs 11 = .pointer (some ⟨g, i * 4 + 2, none⟩) := hd.get (j := 11) (by simp [depsOf, Region.binds])
              replace hK : ∀ (uu : Value) (w' : World), Below wx.heap.size wx w' → ((Gd w1 m room (fz fuse) false (some ⟨g, 0, none⟩) cap rs)) w' → (Hb w1) (.inl (.slice q.B (q.x.b.length - q.x.l) q.d)) uu w' → K _ w' := hK
              simp only [Act.put, List.setIfInBounds_toArray, List.set_cons_zero, List.set_cons_succ, e11] at hK ⊢
              have HK := Lib.hid hK
              have HG := Lib.hid hG
              clear hK hd e11
              have gc1 := HG.out.c1
              obtain ⟨gs, _⟩ := HG.out.slot hiq
              have gs2 := gs 2 _ rfl
              clear hG gs
              go_simp
              exact HK.out _ _ (Below.refl _ _) HG.out rfl
            · intro vs wx hG hd K hK
              replace hK : ∀ (uu : Value) (w' : World), Below wx.heap.size wx w' → ((Gd w1 m room (fz fuse) false (some ⟨g, 0, none⟩) cap rs)) w' → (Hb w1) (.inl (.slice PA p.length pc)) uu w' → K _ w' := hK
              simp only [Act.put, List.setIfInBounds_toArray, List.set_cons_zero, List.set_cons_succ] at hK ⊢
              have HK := Lib.hid hK
              have HG := Lib.hid hG
              clear hK hd
              clear hG
              go_simp
              exact HK.out _ _ (Below.refl _ _) HG.out rfl
            · intro vs wx hG hd K hK
              have e12 : vs 12 = .slice q.B (q.x.b.length - q.x.l) q.d := hd.get (j := 12) (by simp [depsOf, Region.binds])
              have e13 : vs 13 = .slice PA p.length pc := hd.get (j := 13) (by simp [depsOf, Region.binds])
              replace hK : ∀ (uu : Value) (w' : World), Below wx.heap.size wx w' → ((Gd w1 m room (fz fuse) false (some ⟨g, 0, none⟩) cap rs)) w' → (Hb w1) (.inr L9) uu w' → K _ w' := hK
              simp only [Act.put, List.setIfInBounds_toArray, List.set_cons_zero, List.set_cons_succ, e12, e13] at hK ⊢
              have HK := Lib.hid hK
              have HG := Lib.hid hG
              clear hK hd e12 e13
              clear hG
              go_simp
              go_at_call 42
              refine (HJ.out _ HG.out.bel).mono ?_
              rintro e w9 ⟨A9, c9, rfl, ho, hb⟩
              exact HK.out _ _ hb (HG.out.below hb) ⟨A9, c9, rfl, ho.more HG.out.bel.size⟩
            · intro vs wx hG hd K hK
              have e3 : vs 3 = .slice (some ⟨g, 0, none⟩) rs.length cap := hd.get (j := 3) (by simp [depsOf, Region.binds])
              have e4 : vs 4 = .int .i64 (i : Int) := hd.get (j := 4) (by simp [depsOf, Region.binds])
              replace hK : ∀ (uu : Value) (w' : World), Below wx.heap.size wx w' → ((Gd w1 m room (fz fuse) false (some ⟨g, 0, none⟩) cap rs)) w' → (Hb w1) (.inl (.pointer (some ⟨g, i * 4, none⟩))) uu w' → K _ w' := hK
              simp only [Act.put, List.setIfInBounds_toArray, List.set_cons_zero, List.set_cons_succ, e3, e4] at hK ⊢
              have HK := Lib.hid hK
              have HG := Lib.hid hG
              clear hK hd e3 e4
              clear hG
              go_simp
              exact HK.out _ _ (Below.refl _ _) HG.out rfl
            · intro vs wx hG hd K hK
              have e15 : vs 15 = .pointer (some ⟨g, i * 4, none⟩) := hd.get (j := 15) (by simp [depsOf, Region.binds])
              replace hK : ∀ (uu : Value) (w' : World), Below wx.heap.size wx w' → ((Gd w1 m room (fz fuse) false (some ⟨g, 0, none⟩) cap rs)) w' → (Hb w1) (.inl (.pointer (some ⟨g, i * 4 + 2, none⟩))) uu w' → K _ w' := hK
              simp only [Act.put, List.setIfInBounds_toArray, List.set_cons_zero, List.set_cons_succ, e15] at hK ⊢
              have HK := Lib.hid hK
              have HG := Lib.hid hG
              clear hK hd e15
              clear hG
              go_simp
              exact HK.out _ _ (Below.refl _ _) HG.out rfl
            · intro vs wx hG hd K hK
              have e16 : vs 16 = .pointer (some ⟨g, i * 4 + 2, none⟩) := hd.get (j := 16) (by simp [depsOf, Region.binds])
              obtain ⟨A14, c14, e14, q14⟩ : ∃ Aq cq, vs 14 = .slice Aq L9.length cq ∧ Ob wx w1.heap.size (.slice Aq L9.length cq) L9 := hd.get (j := 14) (by simp [depsOf, Region.binds])
              replace hK : ∀ (uu : Value) (w' : World), (Es w1 m room (fz fuse) false g cap rs i ⟨q.x.n, q.x.b ++ p, q.x.l, q.x.k⟩) w' → K _ w' := hK
              simp only [Act.put, e16, e14] at hK ⊢
              have HK := Lib.hid hK
              have HG := Lib.hid hG
              clear hK hd e16 e14
              obtain ⟨gs, gfr⟩ := HG.out.slot hiq
              have gs2 := gs 2 _ rfl
              have gf2 := gfr (i * 4 + 2)
              have HE9 := Lib.hid (es_app HD1.out HG.out hiq q14 HL9.out)
              clear hG gs gfr q14
              go_simp
              exact HK.out undef _ HE9.out
          case hend =>
            rintro vs wx ⟨q', e', D2, t2, hN⟩
            have hrs := HRS.out
            subst hrs
            have HR := Lib.hid (RD.turned (a' := ⟨room, fz fuse, false, putA n p (rs.map Rq.x)⟩) HB.out D2 (by rw [HE.out, List.map_set, e']) (HT1.out.thenQ t2 fun k _ h => by subst h; exact .inr (.inl rfl)) (fun k hk => (hN k hk).imp id fun h => Nat.le_trans HT1.out.size h) 0)
            clear D2 t2 hN e'
            go_wp2_with fail
            go_ret
            exact HR.out
end
end Go.Proofs.Ytkkaehaoahpibaa
