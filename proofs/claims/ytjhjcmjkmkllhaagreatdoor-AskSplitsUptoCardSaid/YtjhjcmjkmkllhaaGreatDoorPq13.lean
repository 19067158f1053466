/- Two labels' order as the program reckons it. -/
import Derived.Test.YtjhjcmjkmkllhaaGreatDoorPq8
import Derived.Test.YtjhjcmjkmkllhaaGreatDoorPq10
import Derived.Test.YtjhjcmjkmkllhaaGreatDoorPq5
import Derived.Test.YtjhjcmjkmkllhaaGreatDoorPq9
import Derived.Lib.IndexMore
import Derived.Test.YtjhjcmjkmkllhaaGreatDoorPq3
import Derived.Test.YtjhjcmjkmkllhaaGreatDoorPq4
import Derived.Test.YtjhjcmjkmkllhaaGreatDoorRows
import Derived.LoopTactic
namespace Go.Proofs.YtjhjcmjkmkllhaaGreatDoor
open Go.RowKit

/-- Nothing but draws. -/
def Dn (w w' : World) : Prop := ∃ m, w' = w.drewN m
theorem Dn.drewN {w w' : World} (h : Dn w w') (n : Nat) : Dn w (w'.drewN n) := by
  obtain ⟨m, rfl⟩ := h
  exact ⟨m + n, World.drewN_drewN _ _ _⟩
theorem Dn.lr {w w' : World} {K cap : Nat} {A : Option Addr} {l : List Pp} (h : Dn w w') (hl : Lr w K A cap l) : Lr w' K A cap l := by
  obtain ⟨m, rfl⟩ := h
  exact hl.drewN m
set_option maxRecDepth 100000 in
set_option maxHeartbeats 3200000 in
theorem rCompareQ_any (K : Nat) (A B : Option Addr) (n m cap cbp : Nat) (a b : List Pp) (w : World) (hn : a.length = n) (hm : b.length = m) (ha : Lr w K A cap a) (hb : Lr w K B cbp b) :
    Calls Tryz.prog 16 #[.slice A n cap, .slice B m cbp] w fun e w' => e = .returned (.int .i64 (cmpL a b)) ∧ Dn w w' := by
  subst hn hm
  have hle := ha.le
  have hmax := ha.max
  have hle2 := hb.le
  have hmax2 := hb.max
  unfold maxLen at hmax hmax2
  go_enter Tryz.func16, Tryz.ntmps16
  go_wp2
  go_loopw [5] (fun i wr => ∃ k : Nat, k ≤ a.length ∧ k ≤ b.length ∧ i = .int .i64 k ∧ Hid (cmpL a b = cmpL (a.drop k) (b.drop k)) ∧ Dn w wr) (fun i _ => a.length - (intOf i).toNat)
  case atStart => exact ⟨0, Nat.zero_le _, Nat.zero_le _, rfl, Lib.hid rfl, ⟨0, rfl⟩⟩
  case round =>
    obtain ⟨k, hk, hk2, rfl, HT, hdn⟩ := hrel
    have ha := hdn.lr ha
    have hb := hdn.lr hb
    have HDN := Lib.hid hdn
    clear hdn
    by_cases hlt : k < a.length
    · by_cases hlt2 : k < b.length
      · obtain ⟨ad, rfl, hadK, h1, h2⟩ := lr_at ha hlt
        obtain ⟨bd, rfl, hbdK, h3, h4⟩ := lr_at hb hlt2
        have hstep := cmpL_step hlt hlt2
        generalize (a.getD k nilP).1 = xn at *
        generalize (a.getD k nilP).2 = xv at *
        generalize (b.getD k nilP).1 = yn at *
        generalize (b.getD k nilP).2 = yv at *
        unfold ltB at hstep
        have i1 : (k : Int) < a.length := by omega
        have i2 : (k : Int) < b.length := by omega
        by_cases q1 : (xn.toList == yn.toList) = true
        · by_cases q2 : (xv.toList == yv.toList) = true
          · have HN : Hid (cmpL a b = cmpL (a.drop (k + 1)) (b.drop (k + 1))) := Lib.hid (by rw [HT.out, hstep, q1, q2]; rfl)
            clear hstep
            go_wp2_with fail
            go_quiet (fail)
            go_wp2_with fail
            go_quiet (fail)
            go_wp2_with fail
            go_roundw
            case rel => exact ⟨k + 1, by omega, by omega, by go_num, HN, (by (repeat (first | exact HDN.out | apply Dn.drewN)))⟩
            case measure => simp [intOf]; omega
          · have q2 : (xv.toList == yv.toList) = false := by simpa using q2
            by_cases q3 : Op.bytesLess xv.toList yv.toList = true
            · have HF : Hid (cmpL a b = -1) := Lib.hid (by rw [HT.out, hstep, q1, q2, q3]; rfl)
              clear hstep
              go_wp2_with fail
              go_quiet (fail)
              go_wp2_with fail
              go_quiet (fail)
              go_wp2_with fail
              go_quiet (fail)
              go_wp2_with fail
              go_ret
              exact ⟨ret_int HF.out.symm, (by (repeat (first | exact HDN.out | apply Dn.drewN)))⟩
            · have q3 : Op.bytesLess xv.toList yv.toList = false := by simpa using q3
              have HF : Hid (cmpL a b = 1) := Lib.hid (by rw [HT.out, hstep, q1, q2, q3]; rfl)
              clear hstep
              go_wp2_with fail
              go_quiet (fail)
              go_wp2_with fail
              go_quiet (fail)
              go_wp2_with fail
              go_quiet (fail)
              go_wp2_with fail
              go_ret
              exact ⟨ret_int HF.out.symm, (by (repeat (first | exact HDN.out | apply Dn.drewN)))⟩
        · have q1 : (xn.toList == yn.toList) = false := by simpa using q1
          by_cases q3 : Op.bytesLess xn.toList yn.toList = true
          · have HF : Hid (cmpL a b = -1) := Lib.hid (by rw [HT.out, hstep, q1, q3]; rfl)
            clear hstep
            go_wp2_with fail
            go_quiet (fail)
            go_wp2_with fail
            go_quiet (fail)
            go_wp2_with fail
            go_ret
            exact ⟨ret_int HF.out.symm, (by (repeat (first | exact HDN.out | apply Dn.drewN)))⟩
          · have q3 : Op.bytesLess xn.toList yn.toList = false := by simpa using q3
            have HF : Hid (cmpL a b = 1) := Lib.hid (by rw [HT.out, hstep, q1, q3]; rfl)
            clear hstep
            go_wp2_with fail
            go_quiet (fail)
            go_wp2_with fail
            go_quiet (fail)
            go_wp2_with fail
            go_ret
            exact ⟨ret_int HF.out.symm, (by (repeat (first | exact HDN.out | apply Dn.drewN)))⟩
      · have HF : Hid (cmpL a b = 1) := Lib.hid (by rw [HT.out]; exact cmpL_right hlt (by omega))
        have hg : b.length < a.length := by omega
        go_wp2_with fail
        go_ret
        exact ⟨ret_int HF.out.symm, HDN.out⟩
    · have hke : k = a.length := by omega
      by_cases hlt2 : k < b.length
      · have HF : Hid (cmpL a b = -1) := Lib.hid (by rw [HT.out]; exact cmpL_left (by omega) hlt2)
        have hg : a.length < b.length := by omega
        have HE := Lib.hid hke
        clear hke
        go_wp2_with fail
        go_ret
        exact ⟨ret_int HF.out.symm, HDN.out⟩
      · have HF : Hid (cmpL a b = 0) := Lib.hid (by rw [HT.out]; exact cmpL_both (by omega) (by omega))
        have hg : ¬ a.length < b.length := by omega
        have hg2 : ¬ b.length < a.length := by omega
        have HE := Lib.hid hke
        clear hke
        go_wp2_with fail
        go_ret
        exact ⟨ret_int HF.out.symm, HDN.out⟩
theorem rSameQ_any (K : Nat) (A B : Option Addr) (n m cap cbp : Nat) (a b : List Pp) (w : World) (hn : a.length = n) (hm : b.length = m) (ha : Lr w K A cap a) (hb : Lr w K B cbp b) :
    Calls Tryz.prog 15 #[.slice A n cap, .slice B m cbp] w fun e w' => e = .returned (.bool (cmpL a b == 0)) ∧ Dn w w' := by
  have HC := Lib.hid (rCompareQ_any K A B n m cap cbp a b w hn hm ha hb)
  clear hn hm ha hb
  generalize cmpL a b = r at *
  go_enter Tryz.func15, Tryz.ntmps15
  go_wp2_with (go_at_call 16; refine HC.out.mono ?_; rintro e w1 ⟨rfl, hd⟩)
  go_ret
  exact ⟨rfl, hd⟩
end Go.Proofs.YtjhjcmjkmkllhaaGreatDoor
namespace Go.Proofs.YtjhjcmjkmkllhaaGreatDoor
open Go.RowKit

/-- The bytes up to the next '=', and those behind it. -/
def nmOf : List UInt8 → List UInt8
  | [] => []
  | c :: l => if (c.toNat : Int) = 61 then [] else c :: nmOf l
def rsOf : List UInt8 → List UInt8
  | [] => []
  | c :: l => if (c.toNat : Int) = 61 then l else rsOf l
theorem cut_spec : ∀ l : List UInt8, (Lib.index l [61] = -1 ∧ nmOf l = l ∧ rsOf l = []) ∨ ∃ i : Nat, Lib.index l [61] = (i : Int) ∧ nmOf l = l.take i ∧ rsOf l = l.drop (i + 1) ∧ i < l.length
  | [] => .inl ⟨rfl, rfl, rfl⟩
  | c :: l => by
    have h61 : ((61 : UInt8).toNat : Int) = 61 := rfl
    by_cases hc : (c.toNat : Int) = 61
    · have hcc : c = 61 := UInt8.toNat_inj.1 (by have : (61 : UInt8).toNat = 61 := rfl; omega)
      subst hcc
      refine .inr ⟨0, by simp [Lib.index, List.isPrefixOf], by rw [nmOf, if_pos hc]; rfl, by rw [rsOf, if_pos hc]; rfl, by simp⟩
    · have hne : ¬ (61 : UInt8) = c := by rintro rfl; exact hc rfl
      have hp : ([61] : List UInt8).isPrefixOf (c :: l) = false := by simp [List.isPrefixOf, hne]
      have e : Lib.index (c :: l) [61] = if Lib.index l [61] == -1 then -1 else Lib.index l [61] + 1 := by
        rw [Lib.index, hp]; simp
      rw [e, nmOf, if_neg hc, rsOf, if_neg hc]
      rcases cut_spec l with ⟨h1, h2, h3⟩ | ⟨i, h1, h2, h3, h4⟩
      · exact .inl ⟨by rw [h1]; rfl, by rw [h2], h3⟩
      · refine .inr ⟨i + 1, ?_, by rw [h2]; rfl, by rw [h3]; rfl, by simp; omega⟩
        rw [h1, if_neg (by simp)]
        rfl
theorem cut_eq (l : List UInt8) : (Lib.cut l [61]).1 = nmOf l ∧ (Lib.cut l [61]).2.1 = rsOf l := by
  rcases cut_spec l with ⟨h1, h2, h3⟩ | ⟨i, h1, h2, h3, h4⟩
  · have : ¬ (0 : Int) ≤ -1 := by decide
    unfold Lib.cut
    rw [h1, if_neg this]
    exact ⟨h2.symm, h3.symm⟩
  · unfold Lib.cut
    rw [h1, if_pos (by omega), Int.toNat_natCast]
    exact ⟨h2.symm, h3.symm⟩
theorem rsOf_len (l : List UInt8) : rsOf l = [] ∨ (nmOf l).length + 1 + (rsOf l).length = l.length := by
  rcases cut_spec l with ⟨h1, h2, h3⟩ | ⟨i, h1, h2, h3, h4⟩
  · exact .inl h3
  · right
    rw [h2, h3, List.length_take, List.length_drop]
    omega
theorem nmOf_len (l : List UInt8) : (nmOf l).length ≤ l.length := by
  rcases cut_spec l with ⟨h1, h2, h3⟩ | ⟨i, h1, h2, h3, h4⟩
  · rw [h2]; exact Nat.le_refl _
  · rw [h2, List.length_take]; omega

/-- The label with which bytes begin, and how many it has. -/
def partP (l : List UInt8) : (List UInt8 × List UInt8) × Nat := if (unqL (rsOf l)).2 = 0 then (([], []), 0) else ((nmOf l, (unqL (rsOf l)).1), (nmOf l).length + 1 + (unqL (rsOf l)).2)
theorem unqL_len (l : List UInt8) : (unqL l).1.length ≤ l.length ∧ (unqL l).2 ≤ l.length := by
  cases l with
  | nil => simp [unqL]
  | cons c r =>
    rw [unqL]
    split
    · have := unqGo_len r false [] 1
      simp at this ⊢
      omega
    · simp
theorem partP_len (l : List UInt8) : (partP l).2 ≤ l.length ∧ (partP l).1.1.length ≤ l.length ∧ (partP l).1.2.length ≤ l.length := by
  have h1 := unqL_len (rsOf l)
  have h3 := nmOf_len l
  unfold partP
  split
  · simp
  · rename_i h
    have hl : (nmOf l).length + 1 + (rsOf l).length = l.length := by
      rcases rsOf_len l with e | e
      · rw [e] at h; exact absurd rfl h
      · exact e
    simp only
    omega
def mkP (p : List UInt8 × List UInt8) : Pp := (⟨p.1.toArray⟩, ⟨p.2.toArray⟩)
/-- The labels that stand in bytes, behind the opening brace, up to the closing one at the end. -/
def readGo : Nat → List UInt8 → List Pp → Option (List Pp)
  | 0, _, _ => none
  | f + 1, l, acc =>
    if (partP l).2 = 0 then none
    else if l.drop (partP l).2 = [125] then some (acc ++ [mkP (partP l).1])
    else if Lib.hasPrefix (l.drop (partP l).2) [44] = true then readGo f (l.drop ((partP l).2 + 1)) (acc ++ [mkP (partP l).1])
    else none
def readB (t : List UInt8) : Option (List Pp) := if t = [123, 125] then some [] else if Lib.hasPrefix t [123] = true then readGo (t.length + 1) (t.drop 1) [] else none
theorem readGo_fuel : ∀ (f g : Nat) (l : List UInt8) (acc : List Pp), l.length < f → l.length < g → readGo f l acc = readGo g l acc
  | 0, _, l, _, h, _ => by omega
  | _ + 1, 0, l, _, _, h => by omega
  | f + 1, g + 1, l, acc, hf, hg => by
    rw [readGo, readGo]
    split
    · rfl
    · split
      · rfl
      · split
        · rename_i h1 h2 h3
          have hl : 0 < l.length := by
            cases l with
            | nil => simp at h3; exact absurd h3 (by simp [Lib.hasPrefix])
            | cons => simp
          exact readGo_fuel f g _ _ (by rw [List.length_drop]; omega) (by rw [List.length_drop]; omega)
        · rfl
/-- The error, and the set. -/
def parseE (t : List UInt8) : Int := if 4096 < t.length then 10 else match readB t with
  | none => 10
  | some l => if rightL l = true then 0 else 40
def parseL (t : List UInt8) : List Pp := if 4096 < t.length then [] else match readB t with
  | none => []
  | some l => if rightL l = true then l else []
theorem ext_drop (s : ByteArray) (k : Nat) : s.extract k s.size = ⟨(s.data.toList.drop k).toArray⟩ := by
  apply ByteArray.ext
  apply Array.toList_inj.1
  simp only [ByteArray.data_extract, Array.toList_extract, List.extract_eq_take_drop]
  rw [List.take_of_length_le (by simp)]
end Go.Proofs.YtjhjcmjkmkllhaaGreatDoor
namespace Go.Proofs.YtjhjcmjkmkllhaaGreatDoor
open Go.RowKit

/-- A rule's three cells. -/
def encR (x : Rp) : List Value := [.string x.1, .int .i64 x.2.1, .string x.2.2]
theorem encR_len (x : Rp) : (encR x).length = 3 := rfl
theorem encR_one (x : Rp) : ∀ u ∈ encR x, u.oneCell' = true := by intro u hu; simp [encR] at hu; rcases hu with rfl | rfl | rfl <;> rfl
theorem info_ar : (Tryz.prog.info? 109).map (fun i => (i.zero, i.size, i.bytes)) = some (some (.agg #[.string ⟨#[]⟩, .int .i64 0, .string ⟨#[]⟩]), 3, 40) := by kernel_rfl
theorem info_dr : (Tryz.prog.info? 108).map (fun i => (i.zero, i.size, i.bytes)) = some (some (.agg #[.string ⟨#[]⟩, .int .i64 0, .string ⟨#[]⟩]), 3, 40) := by kernel_rfl

abbrev Rr (w : World) (K : Nat) (A : Option Addr) (cap : Nat) (l : List Rp) : Prop := Sr encR 3 w K A cap l
abbrev Ra (w : World) (K : Nat) (v : Value) (l : List Rp) : Prop := So encR 3 w K 109 v l
abbrev Rd (w : World) (K : Nat) (v : Value) (l : List Rp) : Prop := So encR 3 w K 108 v l
theorem rr_cells {w : World} {K cap : Nat} {A : Option Addr} {l : List Rp} (h : Rr w K A cap l) {i : Nat} (hi : i < l.length) : ∃ ad : Addr, A = some ad ∧ ad.block < K ∧ w.cell? (ad.add (i * 3)) = some (.string l[i].1) ∧ w.cell? ⟨(ad.add (i * 3)).block, (ad.add (i * 3)).off + 1, none⟩ = some (.int .i64 l[i].2.1) ∧ w.cell? ⟨(ad.add (i * 3)).block, (ad.add (i * 3)).off + 2, none⟩ = some (.string l[i].2.2) := by
  obtain ⟨ad, e, hb, h0, h1⟩ := h.get2 hi
  exact ⟨ad, e, hb, h0 _ rfl, h1 1 _ (by decide) rfl, h1 2 _ (by decide) rfl⟩
theorem rr_at {w : World} {K cap : Nat} {A : Option Addr} {l : List Rp} (h : Rr w K A cap l) {i : Nat} (hi : i < l.length) : ∃ ad : Addr, A = some ad ∧ ad.block < K ∧ w.cell? (ad.add (i * 3)) = some (.string (l.getD i nilR).1) ∧ w.cell? ⟨(ad.add (i * 3)).block, (ad.add (i * 3)).off + 1, none⟩ = some (.int .i64 (l.getD i nilR).2.1) ∧ w.cell? ⟨(ad.add (i * 3)).block, (ad.add (i * 3)).off + 2, none⟩ = some (.string (l.getD i nilR).2.2) := by
  rw [getR_eq hi]
  exact rr_cells h hi

/-- A new slice of the rules l; nothing else has turned. -/
def NewR (w : World) (l : List Rp) (e : Ending) (w' : World) : Prop :=
  ∃ A' cap', e = .returned (.slice A' l.length cap') ∧ Ra w' w.heap.size (.slice A' l.length cap') l ∧ Below w.heap.size w w'
def NewRd (w : World) (l : List Rp) (e : Ending) (w' : World) : Prop :=
  ∃ A' cap', e = .returned (.slice A' l.length cap') ∧ Rd w' w.heap.size (.slice A' l.length cap') l ∧ Below w.heap.size w w'

set_option maxHeartbeats 1600000 in
theorem toR_any (K : Nat) (A : Option Addr) (n cap : Nat) (l : List Rp) (w : World) (hln : l.length = n) (hp : Rr w K A cap l) (hK : K ≤ w.heap.size) (hl : l.length * 40 ≤ 140737488355328) :
    Calls Tryz.prog 20 #[.slice A n cap] w (NewR w l) := by
  subst hln
  have hle := hp.le
  have hmax := hp.max
  unfold maxLen at hmax
  go_enter Tryz.func20, Tryz.ntmps20
  go_wp2
  go_loopw [3, 8] (fun v i wr => ∃ (k c : Nat) (B : Option Addr), k ≤ l.length ∧ i = .int .i64 k ∧ v = .slice B k c ∧ Ra wr w.heap.size (.slice B k c) (l.take k) ∧ Below w.heap.size w wr) (fun _ i _ => l.length - (intOf i).toNat)
  case atStart => exact ⟨0, 0, none, Nat.zero_le _, rfl, rfl, by simpa using So.empty _ _ _ _ _, Below.refl _ _⟩
  case round =>
    obtain ⟨k, c, B, hk, rfl, rfl, hps, hbl⟩ := hrel
    have z := hbl.size
    by_cases hlt : k < l.length
    · obtain ⟨ad, rfl, hadK, h1, h2, h3⟩ := rr_cells (hp.below (hbl.mono hK)) hlt
      have htk : l.take (k + 1) = l.take k ++ [l[k]] := List.take_succ_eq_append_getElem hlt
      have hln : (l.take k).length = k := by simp; omega
      generalize l[k] = x at *
      obtain ⟨xn, xo, xv⟩ := x
      simp only at h1 h2 h3
      have HT := Lib.hid htk
      have HL := Lib.hid hln
      have hps1 := hps.alloc (.cells #[.string xn, .int .i64 xo, .string xv] 108)
      clear htk hln
      go_wp2_with (at_builtin; refine wpList_pushE Tryz.underlying34 info_ar rfl (by decide) (wr.alloc (.cells #[.string xn, .int .i64 xo, .string xv] 108)) rfl (.tmp 12) (.tmp 20) rfl w.heap.size (.slice B k c) (l.take k) rfl hps1 (xn, xo, xv) _ rfl rfl (encR_one _) _ (wr.heap.size + 1) (by simp) rfl (k + 1) (by rw [HL.out]) (by unfold maxLen; omega) (by omega) (by omega) ?_; intro A2 cap2 w2 hps2 hgrow2 hat2; have B2 : Below w.heap.size w w2 := grown_belowE (hbl.alloc z _) hgrow2 (by simp; omega) (fun _ h => (hps1.lt _ h).1))
      go_roundw
      case rel => exact ⟨k + 1, cap2, A2, by omega, by go_num, rfl, by rw [HT.out]; exact hps2, B2⟩
      case measure => simp [intOf]; omega
    · have hkl : k = l.length := by omega
      subst hkl
      rw [List.take_length] at hps
      go_wp2
      go_ret
      exact ⟨B, c, rfl, hps, hbl⟩
end Go.Proofs.YtjhjcmjkmkllhaaGreatDoor
namespace Go.Proofs.YtjhjcmjkmkllhaaGreatDoor
open Go.RowKit

def cmpN (a b : Int) : Int := if a < b then -1 else if b < a then 1 else 0
set_option maxHeartbeats 800000 in
theorem isnan_any (a : Int) (w : World) : Calls Tryz.prog 139 #[.int .i64 a] w fun e w' => e = .returned (.bool false) ∧ w' = w := by
  go_enter Tryz.func139, Tryz.ntmps139
  go_wp2
  go_ret
  exact ⟨rfl, rfl⟩
set_option maxHeartbeats 800000 in
theorem compareN_any (a b : Int) (w : World) : Calls Tryz.prog 127 #[.int .i64 a, .int .i64 b] w fun e w' => e = .returned (.int .i64 (cmpN a b)) ∧ w' = w := by
  go_enter Tryz.func127, Tryz.ntmps127
  go_wp2_with (go_at_call 139; refine (isnan_any _ _).mono ?_; rintro e w1 ⟨rfl, rfl⟩)
  all_goals go_ret
  all_goals exact ⟨ret_int (by simp only [cmpN]; (repeat' split) <;> first | rfl | omega | simp_all), rfl⟩
set_option maxHeartbeats 800000 in
theorem byNum_any (x y : Smp) (w : World) : Calls Tryz.prog 110 #[agS x, agS y] w fun e w' => e = .returned (.int .i64 (cmpN x.2 y.2)) ∧ Below w.heap.size w w' := by
  go_enter Tryz.func110, Tryz.ntmps110
  go_wp2_with (go_at_call 127; refine (compareN_any _ _ _).mono ?_; rintro e w1 ⟨rfl, rfl⟩)
  go_ret
  exact ⟨rfl, by go_grown⟩
theorem wrapI (x : Int) (h0 : -9223372036854775808 ≤ x) (h1 : x ≤ 9223372036854775807) : IntKind.i64.wrap x = x := by rw [IntKind.wrap_i64]; omega
set_option maxHeartbeats 800000 in
theorem growth_any (a b : Int) (ha0 : -9223372036854775808 ≤ a) (ha1 : a ≤ 9223372036854775807) (hb0 : -9223372036854775808 ≤ b) (hb1 : b ≤ 9223372036854775807) (w : World) :
    Calls Tryz.prog 112 #[.int .i64 a, .int .i64 b] w fun e w' => e = .returned (.tuple #[.int .i64 (rangeB (b - a)).1, .int .i64 (rangeB (b - a)).2]) ∧ w' = w := by
  rcases Int.lt_trichotomy 0 a with h | h | h
  · have h2 : ¬ a < 0 := by omega
    have hw := wrapI (-9223372036854775808 + a) (by omega) (by omega)
    by_cases h3 : b < -9223372036854775808 + a
    · have hr : rangeB (b - a) = (0, 20) := if_neg (by omega)
      rw [hr]
      go_enter Tryz.func112, Tryz.ntmps112
      go_wp2
      go_ret2
      exact ⟨rfl, rfl⟩
    · have hr : rangeB (b - a) = (b - a, 0) := if_pos (by omega)
      have hv := wrapI (b - a) (by omega) (by omega)
      rw [hr]
      go_enter Tryz.func112, Tryz.ntmps112
      go_wp2
      go_ret2
      exact ⟨rfl, rfl⟩
  · subst h
    have hr : rangeB (b - 0) = (b, 0) := by rw [Int.sub_zero]; exact if_pos (by omega)
    have hv := wrapI b (by omega) (by omega)
    rw [hr]
    go_enter Tryz.func112, Tryz.ntmps112
    go_wp2
    go_ret2
    exact ⟨rfl, rfl⟩
  · have h2 : ¬ 0 < a := by omega
    have hw := wrapI (9223372036854775807 + a) (by omega) (by omega)
    by_cases h3 : 9223372036854775807 + a < b
    · have hr : rangeB (b - a) = (0, 20) := if_neg (by omega)
      rw [hr]
      go_enter Tryz.func112, Tryz.ntmps112
      go_wp2
      go_ret2
      exact ⟨rfl, rfl⟩
    · have hr : rangeB (b - a) = (b - a, 0) := if_pos (by omega)
      have hv := wrapI (b - a) (by omega) (by omega)
      rw [hr]
      go_enter Tryz.func112, Tryz.ntmps112
      go_wp2
      go_ret2
      exact ⟨rfl, rfl⟩
end Go.Proofs.YtjhjcmjkmkllhaaGreatDoor
namespace Go.Proofs.YtjhjcmjkmkllhaaGreatDoor
open Go.RowKit

theorem compare_tri : ∀ a b : List UInt8, Lib.compareBytes a b = if a = b then 0 else if a < b then -1 else 1
  | [], [] => by simp [Lib.compareBytes]
  | [], _ :: _ => by simp [Lib.compareBytes]
  | _ :: _, [] => by simp [Lib.compareBytes]
  | a :: l, b :: m => by
    have ih := compare_tri l m
    rw [Lib.compareBytes]
    by_cases h1 : a < b
    · have hne : a ≠ b := by rintro rfl; exact absurd h1 (by simp)
      simp [List.cons_lt_cons_iff, h1, hne]
    · by_cases h2 : b < a
      · have hne : a ≠ b := by rintro rfl; exact absurd h2 h1
        simp [List.cons_lt_cons_iff, h1, h2, hne]
      · have he : a = b := by
          rw [UInt8.lt_iff_toNat_lt] at h1 h2
          exact UInt8.toNat_inj.1 (by omega)
        subst he
        simp [ih]
/-- The first of two that isn't 0. -/
def orI (a b : Int) : Int := if a = 0 then b else a
def cfA (x y : Pp) : Int := orI (Lib.compareBytes (key x) (key y)) (Lib.compareBytes x.2.data.toList y.2.data.toList)
theorem cfA_eq (x y : Pp) : cfA x y = if (!(x.1.toList == y.1.toList)) = true then (if ltB x.1 y.1 = true then -1 else 1)
    else if (!(x.2.toList == y.2.toList)) = true then (if ltB x.2 y.2 = true then -1 else 1) else 0 := by
  unfold cfA orI
  rw [compare_tri, compare_tri, ltB_eq, ltB_eq, Lib.toList_data, Lib.toList_data, Lib.toList_data, Lib.toList_data]
  have e1 : key x = x.1.data.toList := rfl
  have e2 : key y = y.1.data.toList := rfl
  rw [e1, e2]
  clear e1 e2
  generalize x.1.data.toList = a
  generalize y.1.data.toList = b
  generalize x.2.data.toList = c
  generalize y.2.data.toList = d
  by_cases h1 : a = b
  · by_cases h2 : c = d
    · simp [h1, h2]
    · by_cases h3 : c < d <;> simp [h1, h2, h3]
  · by_cases h3 : a < b <;> simp [h1, h3]
theorem cmpL_stepC {a b : List Pp} {k : Nat} (ha : k < a.length) (hb : k < b.length) : cmpL (a.drop k) (b.drop k) = if cfA (a.getD k nilP) (b.getD k nilP) = 0 then cmpL (a.drop (k + 1)) (b.drop (k + 1)) else cfA (a.getD k nilP) (b.getD k nilP) := by
  rw [cmpL_step ha hb, cfA_eq]
  split
  · split <;> simp
  · split
    · split <;> simp
    · simp
end Go.Proofs.YtjhjcmjkmkllhaaGreatDoor
