/- Queries: which may be, and their texts. -/
import Derived.Test.YtcfbcidakddhfaaGreatDoorPr27
import Derived.BigQuiet
import Derived.Test.YtcfbcidakddhfaaGreatDoorPr9
import Derived.Test.YtcfbcidakddhfaaGreatDoorPr15
import Derived.Test.YtcfbcidakddhfaaGreatDoorPr12
import Derived.Test.YtcfbcidakddhfaaGreatDoorPr23
namespace Go.Proofs.YtcfbcidakddhfaaGreatDoor
open Go.RowKit Go.BigFrame

def NewC (w : World) (l : List Smp) (e : Ending) (w' : World) : Prop :=
  ∃ A' cap', e = .returned (.slice A' l.length cap') ∧ So encSm 2 w' w.heap.size 83 (.slice A' l.length cap') l ∧ Below w.heap.size w w'
set_option maxHeartbeats 1600000 in
theorem tyfrom_any (K : Nat) (A : Option Addr) (n cap : Nat) (l : List Smp) (w : World) (hln : l.length = n) (hp : Sr encSm 2 w K A cap l) (hK : K ≤ w.heap.size) (hl : l.length * 16 ≤ 140737488355328) :
    Calls Tryz.prog 28 #[.slice A n cap] w (NewC w l) := by
  subst hln
  have hle := hp.le
  have hmax := hp.max
  unfold maxLen at hmax
  go_enter Tryz.func28, Tryz.ntmps28
  go_wp2
  go_loopw [3, 8] (fun v i wr => ∃ (k c : Nat) (B : Option Addr), k ≤ l.length ∧ i = .int .i64 k ∧ v = .slice B k c ∧ So encSm 2 wr w.heap.size 83 (.slice B k c) (l.take k) ∧ Below w.heap.size w wr) (fun _ i _ => l.length - (intOf i).toNat)
  case atStart => exact ⟨0, 0, none, Nat.zero_le _, rfl, rfl, by simpa using So.empty _ _ _ _ _, Below.refl _ _⟩
  case round =>
    obtain ⟨k, c, B, hk, rfl, rfl, hps, hbl⟩ := hrel
    have z := hbl.size
    by_cases hlt : k < l.length
    · obtain ⟨ad, rfl, hadK, h1, h2⟩ := s_cells (hp.below (hbl.mono hK)) hlt
      have htk : l.take (k + 1) = l.take k ++ [l[k]] := List.take_succ_eq_append_getElem hlt
      have hln : (l.take k).length = k := by simp; omega
      generalize l[k] = x at *
      obtain ⟨xn, xv⟩ := x
      simp only at h1 h2
      have HT := Lib.hid htk
      have HL := Lib.hid hln
      have hps1 := hps.alloc (.cells #[.int .i64 xn, .int .i64 xv] 121)
      clear htk hln
      go_wp2_with (at_builtin; refine wpList_pushE Tryz.underlying79 info_rc rfl (by decide) (wr.alloc (.cells #[.int .i64 xn, .int .i64 xv] 121)) rfl (.tmp 12) (.tmp 18) rfl w.heap.size (.slice B k c) (l.take k) rfl hps1 (xn, xv) _ rfl rfl (encSm_one _) _ (wr.heap.size + 1) (by simp) rfl (k + 1) (by rw [HL.out]) (by unfold maxLen; omega) (by omega) (by omega) ?_; intro A2 cap2 w2 hps2 hgrow2 hat2; have B2 : Below w.heap.size w w2 := grown_belowT (hbl.alloc z _) hgrow2 (by simp; omega) (fun _ h => (hps1.lt _ h).1))
      go_roundw
      case rel => exact ⟨k + 1, cap2, A2, by omega, by go_num, rfl, by rw [HT.out]; exact hps2, B2⟩
      case measure => simp [intOf]; omega
    · have hkl : k = l.length := by omega
      subst hkl
      rw [List.take_length] at hps
      go_wp2
      go_ret
      exact ⟨B, c, rfl, hps, hbl⟩
theorem below_drewT {B : Nat} {a w : World} (h : Below B a w) (n : Nat) : Below B a (w.drewN n) := ⟨h.os, h.tape, h.output, h.size, h.block⟩
set_option maxHeartbeats 1600000 in
theorem same_any {w : World} {K : Nat} {A B : Option Addr} {n cap c2 : Nat} {l : List Smp} (hln : l.length = n) (h1 : Sr encSm 2 w K A cap l) (h2 : Sr encSm 2 w K B c2 l) (hK : K ≤ w.heap.size) :
    Calls Tryz.prog 26 #[.slice A n cap, .slice B n c2] w (Ok0 w) := by
  subst hln
  have hle := h1.le
  have hmax := h1.max
  have hle2 := h2.le
  have hmax2 := h2.max
  unfold maxLen at hmax hmax2
  have H1 := Lib.hid h1
  have H2 := Lib.hid h2
  clear h1 h2
  go_enter Tryz.func26, Tryz.ntmps26
  go_wp2_with fail
  go_loopw [5] (fun iv wr => ∃ i : Nat, iv = .int .i64 (i : Int) ∧ i ≤ l.length ∧ Below w.heap.size w wr) (fun iv _ => l.length - (intOf iv).toNat)
  case atStart => exact ⟨0, rfl, Nat.zero_le _, Below.refl _ _⟩
  case round =>
    obtain ⟨i, rfl, hi, hbl⟩ := hrel
    rename World => W0
    by_cases hlt : i < l.length
    · obtain ⟨ad, hA, _, u0, u1⟩ := s_cells (H1.out.below (hbl.mono hK)) hlt
      obtain ⟨ae, hB, _, v0, v1⟩ := s_cells (H2.out.below (hbl.mono hK)) hlt
      subst hA hB
      generalize l[i] = x at *
      obtain ⟨x0, x1⟩ := x
      simp only at u0 u1 v0 v1
      have HBL := Lib.hid hbl
      have i2 : (i : Int) < l.length := by omega
      clear hbl
      go_wp2_with fail
      go_big_quiet (fail)
      go_wp2
      go_roundw
      case rel => exact ⟨i + 1, by go_num, by omega, below_drewT HBL.out _⟩
      case measure => simp [intOf]; omega
    · obtain rfl : i = l.length := by omega
      go_wp2
      go_ret
      exact ⟨rfl, hbl⟩
end Go.Proofs.YtcfbcidakddhfaaGreatDoor
namespace Go.Proofs.YtcfbcidakddhfaaGreatDoor

structure Qr where
  op : Int
  rs : List Rp
  fr : Int
  to_ : Int
  st : Int
  nt : Bool
def Qr.zero : Qr := ⟨0, [], 0, 0, 0, false⟩
def opQ (op : Int) : Bool := decide (0 ≤ op) && decide (op < 6)
def stepQ (op fr to_ st : Int) : Bool := if op = 0 then (st == 0) else ((windowsB op [] fr to_ st).1 == 0) && decide (st ≤ 4611686018427387904)
def rightQ (q : Qr) : Bool := opQ q.op && (rulesL q.rs && (spanB q.fr q.to_ && stepQ q.op q.fr q.to_ q.st))
def wordQ (op : Int) : List UInt8 :=
  if op = 0 then [112, 111, 105, 110, 116, 115] else if op = 1 then [115, 117, 109] else if op = 2 then [99, 111, 117, 110, 116]
  else if op = 3 then [109, 105, 110] else if op = 4 then [109, 97, 120] else if op = 5 then [100, 101, 108, 116, 97] else [63]
def numsQ (q : Qr) : List Int := if q.op = 0 then [q.fr, q.to_] else [q.fr, q.to_, q.st]
def notesL : List UInt8 := [32, 110, 111, 116, 101, 115]
def numsL (l : List Int) : List UInt8 := l.flatMap fun n => 32 :: Lib.itoa n
def textQ (q : Qr) : List UInt8 := wordQ q.op ++ textR q.rs ++ numsL (numsQ q) ++ (if q.nt = true then notesL else [])
theorem win_nil {op fr to_ st : Int} (h1 : 1 ≤ op) (h2 : op ≤ 5) (hs : spanB fr to_ = true) : (windowsB op [] fr to_ st).1 = if st < 1 then 1 else if longB fr to_ st = true then 8 else 0 := by
  unfold windowsB
  have ho : okB op ([] : List Smp).length = true := by simp [okB, h1, h2]
  rw [ho, hs]
  by_cases hst : st < 1
  · rw [if_pos (by simp [hst]), if_pos hst]
  · rw [if_neg (by simp [hst]), if_neg hst]
    by_cases hl : longB fr to_ st = true
    · rw [if_pos hl, if_pos hl]
    · rw [if_neg hl, if_neg hl]
      have key : ∀ (f : Nat) (b : Int), (winGo op to_ st f b [] []).1 = 0 := fun f b => by
        cases f with
        | zero => rfl
        | succ f => simp only [winGo]; split <;> simp
      simp only [List.drop_nil]
      exact key _ _
end Go.Proofs.YtcfbcidakddhfaaGreatDoor
