/- The document's Int, Flag, Text, Stamp behind bytes. -/
import Derived.Test.YtojkbndaleiaaaaDoorWr2
import Derived.Test.YtojkbndaleiaaaaDoorRefPut
namespace Go.Proofs.YtojkbndaleiaaaaDoor
open Go.RowKit

set_option maxHeartbeats 800000 in
theorem refInt_any (n : Int) (h0 : -9223372036854775808 ≤ n) (h1 : n ≤ 9223372036854775807) (K : Nat) (A : Option Addr) (n0 cap : Nat) (l : List UInt8) (w : World) (ho : Ob w K (.slice A n0 cap) l) (hK : K ≤ w.heap.size) (hsz : l.length + 9 ≤ 140737488355328) :
    Calls Tryd.prog 30 #[.slice A n0 cap, .int .i64 n] w (App w K (.slice A n0 cap) (l ++ numB (zz n))) := by
  have hN := refNum_any (zz n) (zz_le h0 h1) K A n0 cap l w ho hK hsz
  clear ho hK hsz
  generalize l ++ numB (zz n) = m at *
  by_cases hn : 0 ≤ n
  · have e : ((zz n : Nat) : Int) = 2 * n := by unfold zz; rw [if_pos hn]; omega
    rw [e] at hN
    have HN := Lib.hid hN
    clear hN e
    go_enter Tryd.func30, Tryd.ntmps30
    go_wp2_with (go_at_call 29; refine HN.out.mono ?_; rintro e w1 ⟨A1, c1, rfl, ho1, hg1⟩)
    go_ret
    exact ⟨A1, c1, rfl, ho1, hg1⟩
  · have e : ((zz n : Nat) : Int) = 2 * -(n + 1) + 1 := by unfold zz; rw [if_neg hn]; omega
    rw [e] at hN
    have HN := Lib.hid hN
    clear hN e
    go_enter Tryd.func30, Tryd.ntmps30
    go_wp2_with (go_at_call 29; refine HN.out.mono ?_; rintro e w1 ⟨A1, c1, rfl, ho1, hg1⟩)
    go_ret
    exact ⟨A1, c1, rfl, ho1, hg1⟩

set_option maxRecDepth 100000 in
set_option maxHeartbeats 1600000 in
theorem refFlag_any (f : Bool) (K : Nat) (A : Option Addr) (n0 cap : Nat) (l : List UInt8) (w : World) (ho : Ob w K (.slice A n0 cap) l) (hK : K ≤ w.heap.size) (hsz : l.length + 9 ≤ 140737488355328) :
    Calls Tryd.prog 31 #[.slice A n0 cap, .bool f] w (App w K (.slice A n0 cap) (l ++ [if f then 1 else 0])) := by
  have hn0 := ho.bs.2
  have HN0 := Lib.hid hn0
  clear hn0
  cases f
  · go_enter Tryd.func31, Tryd.ntmps31
    go_wp2_with (first
      | (at_builtin; go_loud (refine wpList_app _ rfl (.tmp 9) (.tmp 10) rfl K (.slice A n0 cap) l rfl (ho.alloc _) (some ⟨w.heap.size, 0, none⟩) 1 1 [(0 : UInt8)] rfl rfl _ (lit_bsH w _ w.heap.size rfl _ 1 _ (by rfl) rfl (by decide)) (l ++ [(0 : UInt8)]).length (by simp) (by simp; omega) (by simp; omega) ?_; intro A6 c6 w6 hown6 hgrow6 hat6)))
    go_ret
    exact ⟨A6, c6, by rw [List.length_append]; rfl, hown6, (Gr.refl _ _).step _ hgrow6 hat6⟩
  · go_enter Tryd.func31, Tryd.ntmps31
    go_wp2_with (first
      | (at_builtin; go_loud (refine wpList_app _ rfl (.tmp 6) (.tmp 7) rfl K (.slice A n0 cap) l rfl (ho.alloc _) (some ⟨w.heap.size, 0, none⟩) 1 1 [(1 : UInt8)] rfl rfl _ (lit_bsH w _ w.heap.size rfl _ 1 _ (by rfl) rfl (by decide)) (l ++ [(1 : UInt8)]).length (by simp) (by simp; omega) (by simp; omega) ?_; intro A6 c6 w6 hown6 hgrow6 hat6)))
    go_ret
    exact ⟨A6, c6, by rw [List.length_append]; rfl, hown6, (Gr.refl _ _).step _ hgrow6 hat6⟩

theorem takeB_succ (t : ByteArray) (q : Nat) (h : q < t.size) : t.data.toList.take (q + 1) = t.data.toList.take q ++ [t[q]] := by
  rw [List.take_add_one, List.getElem?_eq_getElem (by simpa using h)]
  rfl
set_option maxRecDepth 100000 in
set_option maxHeartbeats 3200000 in
theorem refText_any (t : ByteArray) (K : Nat) (A : Option Addr) (n0 cap : Nat) (l : List UInt8) (w : World) (ho : Ob w K (.slice A n0 cap) l) (hK : K ≤ w.heap.size) (hsz : l.length + t.size + 9 ≤ 140737488355328) :
    Calls Tryd.prog 32 #[.slice A n0 cap, .string t] w (App w K (.slice A n0 cap) (l ++ numB t.size ++ t.data.toList)) := by
  have hnl : (numB t.size).length ≤ 9 := by rw [numB_length]; have := kN_le t.size; omega
  have HN := Lib.hid (refNum_any t.size (by omega) K A n0 cap l w ho hK (by omega))
  have hml : (l ++ numB t.size).length + t.size ≤ 140737488355328 := by rw [List.length_append]; omega
  clear ho
  generalize l ++ numB t.size = m at *
  have htl : t.data.toList.length = t.size := by simp
  have HTL := Lib.hid htl
  have hbig : t.size < 9223372036854775807 := by omega
  clear htl hnl hsz
  go_enter Tryd.func32, Tryd.ntmps32
  go_wp2_with (go_at_call 29; go_loud (refine HN.out.mono ?_; rintro e w1 ⟨A1, c1, rfl, ho1, hg1⟩))
  go_loopw [0, 5] (fun v s wx => ∃ (q nn c2 : Nat) (A2 : Option Addr), q ≤ t.size ∧ s = .int .i64 (q : Int) ∧ v = .slice A2 nn c2 ∧ nn = m.length + q ∧ Ob wx K (.slice A2 nn c2) (m ++ t.data.toList.take q) ∧ Gr w wx (.slice A n0 cap) (.slice A2 nn c2)) (fun _ s _ => (t.size - intOf s).toNat)
  case atStart => exact ⟨0, m.length, c1, A1, by omega, rfl, rfl, by omega, by rw [List.take_zero, List.append_nil]; exact ho1, hg1⟩
  case round =>
    obtain ⟨q, nn, c2, A2, hq, rfl, rfl, hnn, hob2, hg2⟩ := hrel
    have z2 := hg2.g.size
    have HG2 := Lib.hid hg2
    have HOB2 := Lib.hid hob2
    have HNN := Lib.hid hnn
    clear ho1 hg1 hg2 hob2 hnn
    by_cases hlt : q < t.size
    · go_wp2_with (at_builtin; go_loud (refine wpList_app _ rfl (.tmp 17) (.tmp 21) rfl K (.slice A2 nn c2) (m ++ t.data.toList.take q) rfl (HOB2.out.alloc _) (some ⟨wr.heap.size, 0, none⟩) 1 1 [t[q]] rfl rfl _ (lit_bsH wr _ wr.heap.size rfl _ 1 _ (by rfl) rfl (by decide)) (nn + 1) (by rw [List.length_append, List.length_take, HTL.out, HNN.out, Nat.min_eq_left hq]; rfl) (by rw [List.length_append, List.length_take, HTL.out, Nat.min_eq_left hq]; simp; omega) (by simp; omega) ?_; intro A7 c7 w7 hown7 hgrow7 hat7))
      go_roundw
      case rel => exact ⟨q + 1, nn + 1, c7, A7, by omega, rfl, rfl, by rw [HNN.out]; omega, by rw [takeB_succ t q hlt, ← List.append_assoc]; exact hown7, HG2.out.step _ hgrow7 hat7⟩
      case measure => simp [intOf]; omega
    · have hqj : q = t.size := by omega
      subst hqj
      go_wp2
      go_ret
      have e0 : t.data.toList.take t.size = t.data.toList := by rw [← HTL.out, List.take_length]
      have ho9 := HOB2.out
      rw [e0] at ho9
      have e : nn = (m ++ t.data.toList).length := ho9.bs.2
      clear HNN
      subst e
      exact ⟨A2, c2, rfl, ho9, HG2.out⟩

set_option maxRecDepth 100000 in
set_option maxHeartbeats 3200000 in
theorem refStamp_any (x y z : Int) (hy : 0 ≤ y ∧ y ≤ 4294967295) (hz : 0 ≤ z ∧ z ≤ 4294967295) (K : Nat) (A : Option Addr) (n0 cap : Nat) (l : List UInt8) (w : World) (ho : Ob w K (.slice A n0 cap) l) (hK : K ≤ w.heap.size) (hsz : l.length + 16 ≤ 140737488355328) :
    Calls Tryd.prog 34 #[.slice A n0 cap, stv x y z] w (App w K (.slice A n0 cap) (l ++ putB x y z)) := by
  have hn0 : n0 = l.length := ho.bs.2
  have hpl := putB_length x y z
  have HPL := Lib.hid hpl
  have HX := Lib.hid ho
  have HY := Lib.hid (And.intro hy hz)
  subst hn0
  clear ho hpl hy hz
  go_enter Tryd.func34, Tryd.ntmps34
  go_wp2_with (first
    | (go_at_call 47; go_loud (refine (refPut_any x y z _ HY.out.1 HY.out.2).mono ?_; rintro e w2 ⟨A2, c2, rfl, ho2, hb2⟩))
    | (at_builtin; go_loud (refine wpList_app _ rfl (.tmp 5) (.tmp 7) rfl K (.slice A l.length cap) l rfl ((HX.out.alloc _).below hb2) A2 (putB x y z).length c2 (putB x y z) rfl rfl _ ho2.bs.1 (l.length + (putB x y z).length) rfl (by rw [HPL.out]; omega) (by have := hb2.size; simp at this; omega) ?_; intro A3 c3 w3 ho3 hg3 hor3)))
  go_ret
  exact ⟨A3, c3, by rw [List.length_append]; rfl, by rw [List.length_append]; exact ho3, Gr.after (((Tn.alloc (P := fun _ => False) w _).thenQ (Tn.ofNew hb2) (fun _ _ h => h)).below (Nat.le_refl _) (fun _ _ h => h.elim)) ⟨hg3, (by rw [List.length_append]; exact hor3 : (Value.slice A3 (l ++ putB x y z).length c3).ownBlock = (Value.slice A l.length cap).ownBlock ∨ (Value.slice A3 (l ++ putB x y z).length c3).ownBlock = some w2.heap.size).imp id fun e => ⟨_, e, Nat.le_refl _⟩⟩⟩
end Go.Proofs.YtojkbndaleiaaaaDoor
