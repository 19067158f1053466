/- A nil writer's and a nil reader's methods. -/
import Derived.Test.YtpnhdocimjkakaaPn12
import Derived.Test.YtpnhdocimjkakaaPn7
import Derived.Test.YtpnhdocimjkakaaPn6
import Derived.Test.YtpnhdocimjkakaaPn1
namespace Go.Proofs.Ytpnhdocimjkakaa
open Go.RowKit

/-- The first j bytes of a number, the lowest first. -/
def leN (n j : Nat) : List UInt8 := (List.range j).map fun i => UInt8.ofNat (n / 256 ^ i)
theorem leN_zero (n : Nat) : leN n 0 = [] := rfl
theorem leN_succ (n j : Nat) : leN n (j + 1) = leN n j ++ [UInt8.ofNat (n / 256 ^ j)] := by simp [leN, List.range_succ]
theorem leN_length (n j : Nat) : (leN n j).length = j := by simp [leN]
theorem leN_get (n j i : Nat) (h : i < j) : (leN n j)[i]? = some (UInt8.ofNat (n / 256 ^ i)) := by simp [leN, h]
theorem bl_lo : ∀ f x : Nat, 0 < x → 2 ^ Lib.bitLenAux f x ≤ 2 * x
  | 0, x, h => by simp [Lib.bitLenAux]; omega
  | f + 1, x, h => by
    unfold Lib.bitLenAux
    rw [if_neg (by omega)]
    by_cases h2 : x / 2 = 0
    · have : Lib.bitLenAux f (x / 2) = 0 := by rw [h2]; cases f <;> simp [Lib.bitLenAux]
      rw [this]; omega
    · have := bl_lo f (x / 2) (by omega)
      rw [Nat.add_comm, Nat.pow_succ]
      omega
theorem kN_lo {a : Nat} (ha : 247 < a) (h1 : a ≤ 18446744073709551615) : 256 ^ (kN a - 1) ≤ a := by
  have h := bl_lo 64 a (by omega)
  have hp := kN_pos ha (by omega)
  have e0 : Lib.bitLenAux 64 a = Lib.bitLen a := rfl
  rw [e0] at h
  rw [kN_high ha] at hp ⊢
  generalize Lib.bitLen a = b at *
  have e : (256 : Nat) ^ ((b + 7) / 8 - 1) = 2 ^ (8 * ((b + 7) / 8 - 1)) := by rw [Nat.pow_mul]
  rw [e]
  have h2 : 2 ^ (8 * ((b + 7) / 8 - 1)) ≤ 2 ^ (b - 1) := Nat.pow_le_pow_right (by decide) (by omega)
  have h3 : 2 ^ (b - 1) * 2 = 2 ^ b := by rw [← Nat.pow_succ]; congr 1; omega
  omega
theorem num_more {a j : Nat} (ha : 247 < a) (h1 : a ≤ 18446744073709551615) (hj : j < kN a) : 0 < a / 256 ^ j := by
  have h := kN_lo ha h1
  have h2 : 256 ^ j ≤ 256 ^ (kN a - 1) := Nat.pow_le_pow_right (by decide) (by omega)
  exact Nat.div_pos (by omega) (Nat.pow_pos (by decide))
theorem num_end {a : Nat} (ha : 247 < a) (h1 : a ≤ 18446744073709551615) : a / 256 ^ kN a = 0 := Nat.div_eq_of_lt (kN_hi ha h1)
theorem num_next (a j : Nat) : a / 256 ^ j / 256 = a / 256 ^ (j + 1) := by rw [Nat.div_div_eq_div_mul, Nat.pow_succ]
theorem Gr.after {w W w' : World} {v v' : Value} (hb : Below w.heap.size w W) (h : Gr W w' v v') : Gr w w' v v' :=
  ⟨⟨h.g.os.trans hb.os, h.g.tape.trans hb.tape, h.g.output.trans hb.output, Nat.le_trans hb.size h.g.size, fun k hk hn => (h.g.block k (Nat.lt_of_lt_of_le hk hb.size) hn).trans (hb.block k hk)⟩,
    h.o.imp id fun ⟨j, e, hj⟩ => ⟨j, e, Nat.le_trans hb.size hj⟩⟩

set_option maxRecDepth 100000 in
set_option maxHeartbeats 1600000 in
theorem refNum_low (n : Nat) (h1 : n ≤ 247) (K : Nat) (A : Option Addr) (n0 cap : Nat) (l : List UInt8) (w : World) (ho : Ob w K (.slice A n0 cap) l) (hK : K ≤ w.heap.size) (hsz : l.length + 9 ≤ 140737488355328) :
    Calls Try.prog 114 #[.slice A n0 cap, .int .u64 (n : Int)] w (App w K (.slice A n0 cap) (l ++ numB n)) := by
  rw [numB_low h1]
  have hcell : [Value.int .u8 (n : Int)] = [UInt8.ofNat n].map bv := by simp [bv]; omega
  have HCELL := Lib.hid hcell
  clear hcell
  have hn0 := ho.bs.2
  have HN0 := Lib.hid hn0
  clear hn0
  go_enter Try.func114, Try.ntmps114
  go_wp2_with (first
    | (at_builtin; go_loud (refine wpList_app _ rfl (.tmp 10) (.tmp 13) rfl K (.slice A n0 cap) l rfl (ho.alloc _) (some ⟨w.heap.size, 0, none⟩) 1 1 [UInt8.ofNat n] rfl rfl _ (lit_bsH w _ w.heap.size rfl _ 1 _ (show [Value.int .u8 (n : Int)] = _ from HCELL.out) rfl (by decide)) (l ++ [UInt8.ofNat n]).length (by simp) (by simp; omega) (by simp; omega) ?_; intro A6 c6 w6 hown6 hgrow6 hat6)))
  go_ret
  exact ⟨A6, c6, by rw [List.length_append]; rfl, hown6, (Gr.refl _ _).step _ hgrow6 hat6⟩

set_option maxRecDepth 100000 in
set_option maxHeartbeats 3200000 in
theorem refNum_high (n : Nat) (h0 : 247 < n) (h1 : n ≤ 18446744073709551615) (K : Nat) (A : Option Addr) (n0 cap : Nat) (l : List UInt8) (w : World) (ho : Ob w K (.slice A n0 cap) l) (hK : K ≤ w.heap.size) (hsz : l.length + 9 ≤ 140737488355328) :
    Calls Try.prog 114 #[.slice A n0 cap, .int .u64 (n : Int)] w (App w K (.slice A n0 cap) (l ++ numB n)) := by
  have hk8 := kN_le n
  have hk1 := kN_pos h0 (by omega)
  have hlen : (l ++ numB n).length = l.length + 1 + kN n := by rw [List.length_append, numB_length]; omega
  have hfin : l ++ numB n = (l ++ [UInt8.ofNat (247 + kN n)]) ++ beTo n (kN n) (kN n) := by rw [numB_high h0, beTo_all, List.append_assoc]
  have hmore := fun j => num_more (j := j) h0 h1
  have hend := num_end h0 h1
  have hcell0 : [Value.int .u8 (247 + (kN n : Int))] = [UInt8.ofNat (247 + kN n)].map bv := by simp [bv]; omega
  generalize kN n = k at *
  have HLEN := Lib.hid hlen
  have HFIN := Lib.hid hfin
  have HCELL := Lib.hid hcell0
  have HM := Lib.hid hmore
  have HE := Lib.hid hend
  have hn0 := ho.bs.2
  have HN0 := Lib.hid hn0
  clear hlen hfin hcell0 hn0 hmore hend
  go_enter Try.func114, Try.ntmps114
  go_wp2_with fail
  go_loopw [5, 6] (fun v s wr => ∃ (j m c5 : Nat) (A5 : Option Addr), j ≤ k ∧ s = .int .u64 (m : Int) ∧ m = n / 256 ^ j ∧ v = .slice A5 j c5 ∧ Ob wr w.heap.size (.slice A5 j c5) (leN n j) ∧ Below w.heap.size w wr) (fun _ s _ => (intOf s).toNat)
  case atStart => exact ⟨0, n, 0, none, by omega, rfl, by simp, rfl, Ob.empty _ _, Below.refl _ _⟩
  case round =>
    obtain ⟨j, m, c5, A5, hj, rfl, hm, rfl, hob5, hb5⟩ := hrel
    have z5 := hb5.size
    have hm1 : m ≤ 18446744073709551615 := by rw [hm]; exact Nat.le_trans (Nat.div_le_self _ _) h1
    have HMJ := Lib.hid hm
    by_cases hlt : j < k
    · have hpos : 0 < m := by rw [hm]; exact HM.out j hlt
      have hdec : (m / 256 : Nat) < m := by omega
      clear hm
      go_wp2_with (at_builtin; go_loud (refine wpList_app _ rfl (.tmp 20) (.tmp 24) rfl w.heap.size (.slice A5 j c5) (leN n j) rfl (hob5.alloc _) (some ⟨wr.heap.size, 0, none⟩) 1 1 [UInt8.ofNat (n / 256 ^ j)] rfl rfl _ (lit_bsH wr _ wr.heap.size rfl _ 1 _ (show [Value.int .u8 ((m : Int) % 256)] = _ by rw [← HMJ.out]; simp [bv]) rfl (by decide)) (j + 1) (by rw [leN_length]; rfl) (by rw [leN_length]; simp; omega) (by simp; omega) ?_; intro A7 c7 w7 hown7 hgrow7 hat7))
      go_roundw
      case rel => exact ⟨j + 1, m / 256, c7, A7, by omega, by simp, by rw [HMJ.out, num_next], rfl, by rw [leN_succ]; exact hown7, hb5.trans (((Tn.alloc (P := fun k => w.heap.size ≤ k) wr _).thenQ (Tn.ofGrown hgrow7) (fun k _ e => (hob5.lt k e.symm).1)).below z5 (fun _ _ h => h))⟩
      case measure => simp [intOf]; omega
    · have hj8 : j = k := by omega
      subst hj8
      have hz : m = 0 := by rw [hm]; exact HE.out
      subst hz
      clear hm HMJ
      go_wp2_with (at_builtin; go_loud (refine wpList_app _ rfl (.tmp 26) (.tmp 31) rfl K (.slice A n0 cap) l rfl ((ho.below hb5).alloc _) (some ⟨wr.heap.size, 0, none⟩) 1 1 [UInt8.ofNat (247 + j)] rfl rfl _ (lit_bsH wr _ wr.heap.size rfl _ 1 _ (show [Value.int .u8 (247 + (j : Int))] = _ from HCELL.out) rfl (by decide)) (l.length + 1) rfl (by simp; omega) (by simp; omega) ?_; intro A6 c6 w6 hown6 hgrow6 hat6))
      have G6 : Gr wr w6 (.slice A n0 cap) (.slice A6 (l.length + 1) c6) := (Gr.refl _ _).step _ hgrow6 hat6
      have hne5 : (Value.slice A5 j c5).ownBlock = none ∨ (Value.slice A5 j c5).ownBlock ≠ (Value.slice A n0 cap).ownBlock := by
        cases e : (Value.slice A5 j c5).ownBlock with
        | none => exact .inl rfl
        | some g =>
          refine .inr fun e2 => ?_
          have h1 := (hob5.lt g e).1
          have h2 := (ho.lt g e2.symm).2
          omega
      have HNE := Lib.hid hne5
      have HFR := Lib.hid hb5
      obtain ⟨g, rfl, hg1, hg2⟩ := hob5.addr (by omega)
      have hl1 : (l ++ [UInt8.ofNat (247 + j)]).length = l.length + 1 := by rw [List.length_append]; rfl
      have HL1 := Lib.hid hl1
      generalize l ++ [UInt8.ofNat (247 + j)] = m at *
      have HLOW := Lib.hid hob5
      clear hgrow6 hat6 hl1 hne5 hb5 hob5
      go_loopw [0, 7] (fun v s wx => ∃ (q nn c2 : Nat) (A2 : Option Addr) (sI : Int), q ≤ j ∧ s = .int .i64 sI ∧ sI + 1 + (q : Int) = j ∧ v = .slice A2 nn c2 ∧ nn = l.length + 1 + q ∧ Ob wx K (.slice A2 nn c2) (m ++ beTo n j q) ∧ Gr wr wx (.slice A n0 cap) (.slice A2 nn c2)) (fun _ s _ => (intOf s + 1).toNat)
      case atStart => exact ⟨0, l.length + 1, c6, A6, _, by omega, rfl, by omega, rfl, by omega, by rw [beTo_zero, List.append_nil]; exact hown6, G6⟩
      case round =>
        obtain ⟨q, nn, c2, A2, sI, hq, rfl, hsI, rfl, hnn, hob2, hg2'⟩ := hrel
        rename World => W0
        have z2 := hg2'.g.size
        have HG2 := Lib.hid hg2'
        have HOB2 := Lib.hid hob2
        have HNN := Lib.hid hnn
        clear hown6 G6 hg2' hnn
        by_cases hlt : q < j
        · obtain ⟨i, hi⟩ : ∃ i : Nat, i + q + 1 = j := ⟨j - 1 - q, by omega⟩
          have e : sI = (i : Int) := by omega
          subst e
          have hlow := HLOW.out.keep HG2.out.g HNE.out
          have hsl := hlow.slot (k := i) (by rw [leN_length]; omega)
          have hcell := hsl.1
          have hcap := hsl.2.2.2
          have hval : (leN n j)[i]'(by rw [leN_length]; omega) = UInt8.ofNat (n / 256 ^ (j - 1 - q)) := by
            have := leN_get n j i (by omega)
            rw [List.getElem?_eq_getElem (by rw [leN_length]; omega)] at this
            rw [Option.some.inj this, show j - 1 - q = i by omega]
          rw [hval] at hcell
          have hcell' := hcell
          simp only [bv] at hcell'
          clear hlow hsl hval
          go_wp2_with (at_builtin; go_loud (refine wpList_app _ rfl (.tmp 40) (.tmp 45) rfl K (.slice A2 nn c2) (m ++ beTo n j q) rfl (HOB2.out.alloc _) (some ⟨W0.heap.size, 0, none⟩) 1 1 [UInt8.ofNat (n / 256 ^ (j - 1 - q))] rfl rfl _ (lit_bsH W0 _ W0.heap.size rfl _ 1 _ (by rfl) rfl (by decide)) (nn + 1) (by rw [List.length_append, beTo_length, HL1.out, HNN.out]; rfl) (by rw [List.length_append, beTo_length, HL1.out]; simp; omega) (by simp; omega) ?_; intro A7 c7 w7 hown7 hgrow7 hat7))
          go_roundw
          case rel => exact ⟨q + 1, nn + 1, c7, A7, _, by omega, rfl, by omega, rfl, by rw [HNN.out]; omega, by rw [beTo_succ, ← List.append_assoc]; exact hown7, HG2.out.step _ hgrow7 hat7⟩
          case measure => simp [intOf]
        · have hqj : q = j := by omega
          subst hqj
          have q0 : sI < 0 := by omega
          go_wp2
          go_ret
          rw [← HFIN.out] at hob2
          have e : nn = (l ++ numB n).length := hob2.bs.2
          clear HNN
          subst e
          exact ⟨A2, c2, rfl, hob2, HG2.out.after HFR.out⟩

/-- The document's number behind bytes. -/
theorem refNum_any (n : Nat) (h1 : n ≤ 18446744073709551615) (K : Nat) (A : Option Addr) (n0 cap : Nat) (l : List UInt8) (w : World) (ho : Ob w K (.slice A n0 cap) l) (hK : K ≤ w.heap.size) (hsz : l.length + 9 ≤ 140737488355328) :
    Calls Try.prog 114 #[.slice A n0 cap, .int .u64 (n : Int)] w (App w K (.slice A n0 cap) (l ++ numB n)) := by
  rcases Nat.lt_or_ge 247 n with h | h
  · exact refNum_high n h h1 K A n0 cap l w ho hK hsz
  · exact refNum_low n h K A n0 cap l w ho hK hsz
end Go.Proofs.Ytpnhdocimjkakaa
namespace Go.Proofs.Ytpnhdocimjkakaa
open Go.RowKit

theorem Ob.form {w : World} {K : Nat} {v : Value} {l : List UInt8} (h : Ob w K v l) : ∃ A c, v = .slice A l.length c := by
  rcases h.2 with ⟨he, h0⟩ | ⟨g, cap', cur, he, _⟩
  · exact ⟨none, 0, by rw [he, h0]⟩
  · exact ⟨_, _, he⟩

/-- A writer at block b that has laid the bytes l; its slice is v. -/
structure Wr (w : World) (K b : Nat) (v : Value) (l : List UInt8) : Prop where
  cell : w.cell? ⟨b, 0, none⟩ = some v
  fro : w.frozen? ⟨b, 0, none⟩ = false
  ob : Ob w K v l
  ne : v.ownBlock ≠ some b
  kb : K ≤ b
/-- A slice that was appended to is where it was, or new. -/
def OwnOr (w : World) (v v' : Value) : Prop := v'.ownBlock = v.ownBlock ∨ ∃ j, v'.ownBlock = some j ∧ w.heap.size ≤ j
theorem OwnOr.refl (w : World) (v : Value) : OwnOr w v v := .inl rfl
theorem OwnOr.trans {w w1 : World} {v v1 v2 : Value} (h : OwnOr w v v1) (h2 : OwnOr w1 v1 v2) (hz : w.heap.size ≤ w1.heap.size) : OwnOr w v v2 := by
  rcases h2 with e | ⟨j, e, hj⟩
  · rcases h with e' | ⟨i, e', hi⟩
    · exact .inl (e.trans e')
    · exact .inr ⟨i, e.trans e', hi⟩
  · exact .inr ⟨j, e, Nat.le_trans hz hj⟩
theorem Wr.lt {w : World} {K b : Nat} {v : Value} {l : List UInt8} (h : Wr w K b v l) : b < w.heap.size := World.block_lt_of_cell? w _ h.cell
/-- What a writer's method did: the writer's block and its slice's have turned. -/
structure Wst (w : World) (K b : Nat) (v : Value) (l : List UInt8) (e : Ending) (w' : World) (v' : Value) : Prop where
  e : e = .returned (.tuple #[])
  wr : Wr w' K b v' l
  tn : Tn (fun k => k = b ∨ v.ownBlock = some k) w w'
  own : OwnOr w v v'
theorem Wr.put {w w1 : World} {K b : Nat} {v v1 : Value} {l l1 : List UInt8} (h : Wr w K b v l) (ho : Ob w1 K v1 l1) (ht : Tn (fun k => k = b ∨ v.ownBlock = some k) w w1) (hc : w1.cell? ⟨b, 0, none⟩ = some v) (hf : w1.frozen? ⟨b, 0, none⟩ = false) (hown : OwnOr w v v1) :
    Wst w K b v l1 (.returned (.tuple #[])) (w1.setCell ⟨b, 0, none⟩ v1) v1 := by
  have hne : v1.ownBlock ≠ some b := by
    rcases hown with e | ⟨j, e, hj⟩
    · rw [e]; exact h.ne
    · rw [e]; intro e2; injection e2 with e2; have := h.lt; omega
  refine ⟨rfl, ⟨World.cell?_setCell_same' _ _ _ (by rw [hc]; rfl), ?_, ?_, hne, h.kb⟩, ht.thenQ (Tn.setCell w1 b 0 v1) (fun k _ e => .inl e), hown⟩
  · rw [World.frozen?_setCell]; exact hf
  · exact (Tn.setCell w1 b 0 v1).ob ho fun k hk e => hne (by rw [hk, e])
theorem Gr.tn {w w' : World} {v v' : Value} {b : Nat} (h : Gr w w' v v') : Tn (fun k => k = b ∨ v.ownBlock = some k) w w' :=
  ⟨h.g.os, h.g.tape, h.g.output, h.g.size, fun k hk hn => h.g.block k hk fun e => hn (.inr e.symm)⟩
theorem Wr.kept {w w1 : World} {K b : Nat} {v v' : Value} {l : List UInt8} (h : Wr w K b v l) (g : Gr w w1 v v') : w1.cell? ⟨b, 0, none⟩ = some v ∧ w1.frozen? ⟨b, 0, none⟩ = false :=
  have hb : w1.heap[b]? = w.heap[b]? := g.g.block b h.lt fun e => h.ne e.symm
  ⟨(World.cell?_of_block hb).trans h.cell, (World.frozen?_of_block hb).trans h.fro⟩

theorem Wr.tn {P : Nat → Prop} {w w' : World} {K b : Nat} {v : Value} {l : List UInt8} (h : Wr w K b v l) (t : Tn P w w') (hb : ¬ P b) (ho : ∀ k, v.ownBlock = some k → ¬ P k) : Wr w' K b v l :=
  ⟨t.cell h.cell hb, (t.frozen (p := ⟨b, 0, none⟩) h.lt hb).trans h.fro, t.ob h.ob ho, h.ne, h.kb⟩
theorem Wr.alloc {w : World} {K b : Nat} {v : Value} {l : List UInt8} (h : Wr w K b v l) (o : Obj) : Wr (w.alloc o) K b v l := h.tn (Tn.alloc (P := fun _ => False) w o) id fun _ _ h => h
theorem Wr.below {w w' : World} {K b : Nat} {v : Value} {l : List UInt8} (h : Wr w K b v l) (hb : Below w.heap.size w w') : Wr w' K b v l := h.tn (Tn.ofNew (P := fun _ => False) hb) id fun _ _ h => h
theorem Gr.belowNil {w w' : World} {v' : Value} (h : Gr w w' (.slice none 0 0) v') : Below w.heap.size w w' :=
  ⟨h.g.os, h.g.tape, h.g.output, h.g.size, fun k hk => h.g.block k hk (by simp [Value.ownBlock])⟩
theorem Gr.newNil {w w' : World} {v' : Value} {K : Nat} {l : List UInt8} (h : Gr w w' (.slice none 0 0) v') (ho : Ob w' K v' l) : Ob w' w.heap.size v' l := by
  rcases ho.2 with ⟨he, h0⟩ | ⟨g, cap', cur, he, hb, hg⟩
  · exact ⟨ho.1, .inl ⟨he, h0⟩⟩
  · refine ⟨ho.1, .inr ⟨g, cap', cur, he, ?_, hg⟩⟩
    subst he
    rcases h.o with e | ⟨j, e, hj⟩
    · cases e
    · have e' : some g = some j := e
      injection e' with e'
      omega

theorem new_any (w : World) : Calls Try.prog 61 #[] w fun e w' => e = .returned (.pointer (some ⟨w.heap.size, 0, none⟩)) ∧ w' = w.alloc (.cells #[.slice none 0 0] 174) := by
  go_enter Try.func61, Try.ntmps61
  go_wp2
  go_ret
  exact ⟨rfl, rfl⟩
theorem wr_new (w : World) (K : Nat) (hK : K ≤ w.heap.size) : Wr (w.alloc (.cells #[.slice none 0 0] 174)) K w.heap.size (.slice none 0 0) [] :=
  ⟨by simp, by simp, Ob.empty _ _, by simp [Value.ownBlock], hK⟩

set_option maxHeartbeats 800000 in
theorem wnum_any (n : Nat) (h1 : n ≤ 18446744073709551615) (K b : Nat) (v : Value) (l : List UInt8) (w : World) (h : Wr w K b v l) (hsz : l.length + 9 ≤ 140737488355328) :
    Calls Try.prog 112 #[.pointer (some ⟨b, 0, none⟩), .int .u64 (n : Int)] w fun e w' => ∃ v', Wst w K b v (l ++ numB n) e w' v' := by
  obtain ⟨A, c, rfl⟩ := h.ob.form
  have hlt := h.lt
  have hc0 := h.cell
  have hf0 := h.fro
  have hkb := h.kb
  have HX := Lib.hid h
  have HA := Lib.hid (fun w' (ho : Ob w' K (.slice A l.length c) l) (hK : K ≤ w'.heap.size) => appendNum_any n h1 K A l.length c l w' ho hK hsz)
  clear h
  generalize l ++ numB n = m at *
  go_enter Try.func112, Try.ntmps112
  go_wp2_with (go_at_call 128; refine (HA.out _ HX.out.ob (by omega)).mono ?_; rintro e w1 ⟨A', c', rfl, ho1, hg1⟩; have hk1 := HX.out.kept hg1; have hk1c := hk1.1; have hk1f := hk1.2)
  go_end0
  exact ⟨_, HX.out.put ho1 hg1.tn hk1c hk1f hg1.o⟩
end Go.Proofs.Ytpnhdocimjkakaa
namespace Go.Proofs.Ytpnhdocimjkakaa
open Go.RowKit

theorem wint_nil (n : Int) (w : World) : Calls Try.prog 62 #[.pointer none, .int .i64 n] w fun e w' => e = .returned (.tuple #[]) ∧ w = w' := by
  go_enter Try.func62, Try.ntmps62
  go_wp2_with (go_at_call 112; refine (wnum_nil _ _).mono ?_; rintro e w' ⟨rfl, rfl⟩)
  go_end0
  exact ⟨rfl, rfl⟩
theorem wtext_nil (s : ByteArray) (w : World) : Calls Try.prog 113 #[.pointer none, .string s] w fun e w' => e = .returned (.tuple #[]) ∧ w = w' := by
  go_enter Try.func113, Try.ntmps113
  go_wp2
  go_end0
  exact ⟨rfl, rfl⟩
theorem wbytes_nil (w : World) : Calls Try.prog 65 #[.pointer none] w fun e w' => e = .returned (.slice none 0 0) ∧ w = w' := by
  go_enter Try.func65, Try.ntmps65
  go_wp2
  go_ret
  exact ⟨rfl, rfl⟩
theorem rerr_nil (w : World) : Calls Try.prog 108 #[.pointer none] w fun e w' => e = .returned (.int .i64 2) ∧ w = w' := by
  go_enter Try.func108, Try.ntmps108
  go_wp2
  go_ret
  exact ⟨rfl, rfl⟩
theorem rtake_nil (n : Int) (w : World) : Calls Try.prog 126 #[.pointer none, .int .i64 n] w fun e w' => e = .returned (.slice none 0 0) ∧ w = w' := by
  go_enter Try.func126, Try.ntmps126
  go_wp2_with (go_at_call 108; refine (rerr_nil _).mono ?_; rintro e w' ⟨rfl, rfl⟩)
  go_ret
  exact ⟨rfl, rfl⟩
theorem rnum_nil (w : World) : Calls Try.prog 93 #[.pointer none] w fun e w' => e = .returned (.int .u64 0) ∧ w = w' := by
  go_enter Try.func93, Try.ntmps93
  go_wp2_with (go_at_call 126; refine (rtake_nil _ _).mono ?_; rintro e w' ⟨rfl, rfl⟩)
  go_ret
  exact ⟨rfl, rfl⟩
theorem rint_nil (w : World) : Calls Try.prog 53 #[.pointer none] w fun e w' => e = .returned (.int .i64 0) ∧ w = w' := by
  go_enter Try.func53, Try.ntmps53
  go_wp2_with (go_at_call 93; refine (rnum_nil _).mono ?_; rintro e w' ⟨rfl, rfl⟩)
  go_ret
  exact ⟨ret_int (by decide +kernel), rfl⟩
theorem rend_nil (w : World) : Calls Try.prog 56 #[.pointer none] w fun e w' => e = .returned (.int .i64 2) ∧ w = w' := by
  go_enter Try.func56, Try.ntmps56
  go_wp2_with (go_at_call 108; refine (rerr_nil _).mono ?_; rintro e w' ⟨rfl, rfl⟩)
  go_ret
  exact ⟨rfl, rfl⟩
end Go.Proofs.Ytpnhdocimjkakaa
