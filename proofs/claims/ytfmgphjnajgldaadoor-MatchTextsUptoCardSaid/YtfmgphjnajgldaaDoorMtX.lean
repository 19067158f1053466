/- The program's Text of rules. -/
import Derived.Test.YtfmgphjnajgldaaDoorMtXM
import Derived.Test.YtfmgphjnajgldaaDoorMtG1
import Derived.Test.YtfmgphjnajgldaaDoorLbQ
import Derived.Test.YtfmgphjnajgldaaDoorEl2
import Derived.Test.YtfmgphjnajgldaaDoorShJ
import Derived.RegionTactic
namespace Go.Proofs.YtfmgphjnajgldaaDoor
open Go.RowKit

abbrev emptyS : ByteArray := ⟨#[]⟩
theorem str_add (a b : ByteArray) (h : a.size + b.size ≤ 9223372036854775807) : Op.stringOp .add a b = pure (.string (a ++ b)) := by
  have : ¬ ((a.size + b.size : Nat) : Int) > IntKind.i64.max := by
    have e : IntKind.i64.max = 9223372036854775807 := rfl
    rw [e]; omega
  unfold Op.stringOp
  simp only [if_neg this]
theorem info_str : (Tryd.prog.info? 9).map (fun i => (i.zero, i.size, i.bytes)) = some (some (.string ⟨#[]⟩), 1, 16) := by kernel_rfl
theorem flatS (l : List ByteArray) : l.flatMap encS = l.map Value.string := by
  induction l with
  | nil => rfl
  | cons x l ih => rw [List.flatMap_cons, ih]; rfl
/-- make([]string, n). -/
theorem made_strs (w : World) (n : Nat) (h : n ≤ 8796093022208) : (Instr.makeSlice 64 (.int .i64 (n : Int)) (.int .i64 (n : Int))).run Tryd.prog w = .ok (.slice (some ⟨w.heap.size, 0, none⟩) n n) (w.alloc (.cells (List.replicate n (Value.string ⟨#[]⟩)).toArray 9)) := by
  obtain ⟨i0, hi, hz0, hz1, hz2⟩ := info_parts info_str
  have hr := run_make (P := Tryd.prog) w 64 9 i0 (.string ⟨#[]⟩) Tryd.underlying64 hi hz0 .i64 .i64 (n : Int) (n : Int) (by omega) (by omega) (by rw [hz2]; omega) (by omega)
  rw [hr, Int.toNat_natCast, hz1, Nat.mul_one]
  have e : madeCells (Value.string ⟨#[]⟩).cells n = (List.replicate n (Value.string ⟨#[]⟩)).toArray := by
    apply Array.toList_inj.1
    exact toList_madeCells_one (.string ⟨#[]⟩) n
  rw [e]

theorem so_stored {w : World} {K g n cap : Nat} {T : TypeId} {l : List ByteArray} (h : So encS 1 w K T (.slice (some ⟨g, 0, none⟩) n cap) l) (hn : n = l.length) (j : Nat) (c : ByteArray) : So encS 1 (w.setCell ⟨g, j, none⟩ (.string c)) K T (.slice (some ⟨g, 0, none⟩) n cap) (l.set j c) := by
  subst hn
  have := World.ownsRow.stored h j (.string c)
  unfold So
  rw [List.length_set, flatS, List.map_set, ← flatS]
  exact this.1
theorem so_slot {w : World} {K g n cap k : Nat} {T : TypeId} {l : List ByteArray} (h : So encS 1 w K T (.slice (some ⟨g, 0, none⟩) n cap) l) (hn : n = l.length) (hk : k < l.length) : w.cell? ⟨g, k, none⟩ = some (.string l[k]) ∧ w.frozen? ⟨g, k, none⟩ = false := by
  subst hn
  refine ⟨?_, h.frozenAt k⟩
  rw [h.cellAt k (by omega), flatS]
  simp [hk]

theorem setR_next (l : List Rp) (k : Nat) (hk : k < l.length) (y : ByteArray) (hy : y = partRS (l.getD k nilR)) : ((l.take k).map partRS ++ List.replicate (l.length - k) emptyS).set k y = (l.take (k + 1)).map partRS ++ List.replicate (l.length - (k + 1)) emptyS := by
  have h1 : ((l.take k).map partRS).length = k := by simp; omega
  rw [List.set_append_right _ _ (by omega), h1, Nat.sub_self]
  have h2 : l.length - k = (l.length - (k + 1)) + 1 := by omega
  rw [h2, List.replicate_succ, List.set_cons_zero, List.take_succ_eq_append_getElem hk, List.map_append, List.append_assoc, hy, getR_eq hk]
  rfl

set_option maxHeartbeats 3200000 in
theorem textRl_any (K : Nat) (A : Option Addr) (n cap : Nat) (l : List Rp) (w : World) (hln : l.length = n) (hp : Rr w K A cap l) (hK : K ≤ w.heap.size) (hS : SmR l) (hl : l.length ≤ 1048576) (hg : Sg w) :
    Calls Tryd.prog 17 #[.slice A n cap] w (NewStr w ⟨(textR l).toArray⟩) := by
  subst hln
  have hle := hp.le
  have hmax := hp.max
  unfold maxLen at hmax
  have HG := Lib.hid hg
  clear hg
  have hmk := fun w => made_strs w l.length (by omega)
  go_enter Tryd.func17, Tryd.ntmps17
  go_wp2_with fail
  have hs0 : So encS 1 (w.alloc (.cells (List.replicate l.length (Value.string ⟨#[]⟩)).toArray 9)) w.heap.size 9 (.slice (some ⟨w.heap.size, 0, none⟩) l.length l.length) (List.replicate l.length emptyS) :=
    lit_so w w.heap.size _ w.heap.size rfl (Nat.le_refl _) _ l.length _ encS_len (by rw [flatS]; simp) (by simp) (by unfold maxLen; omega)
  have B0 : Below w.heap.size w (w.alloc (.cells (List.replicate l.length (Value.string ⟨#[]⟩)).toArray 9)) := (Below.refl _ _).alloc (Nat.le_refl _) _
  clear hmk
  go_loopw [11] (fun i wr => ∃ k : Nat, k ≤ l.length ∧ i = .int .i64 k ∧ So encS 1 wr w.heap.size 9 (.slice (some ⟨w.heap.size, 0, none⟩) l.length l.length) ((l.take k).map partRS ++ List.replicate (l.length - k) emptyS) ∧ Below w.heap.size w wr) (fun i _ => l.length - (intOf i).toNat)
  case atStart => exact ⟨0, Nat.zero_le _, rfl, by simpa using hs0, B0⟩
  case round =>
    obtain ⟨k, hk, rfl, hso, hbl⟩ := hrel
    have z := hbl.size
    clear hs0 B0
    by_cases hlt : k < l.length
    · obtain ⟨ad, rfl, hadK, h1, h2, h3⟩ := rr_at (hp.below (hbl.mono hK)) hlt
      have hs := hS.at_ k
      have hnext := setR_next l k hlt _ rfl
      have hll : ((l.take k).map partRS ++ List.replicate (l.length - k) emptyS).length = l.length := by simp; omega
      have hpart : partRS (l.getD k nilR) = (l.getD k nilR).1 ++ ⟨(sgB (l.getD k nilR).2.1).toArray⟩ ++ ⟨(quoteB (l.getD k nilR).2.2).toArray⟩ := rfl
      have hsl := sgB_len (l.getD k nilR).2.1
      have hql := quoteB_len (l.getD k nilR).2.2
      rw [hpart] at hnext
      generalize l.getD k nilR = x at *
      obtain ⟨xn, xo, xv⟩ := x
      simp only at h1 h2 h3 hs hql hsl hpart hnext
      have HQ := Lib.hid (fun W => quote_any xv W (by omega))
      generalize hqe : quoteB xv = q at *
      have HSO := Lib.hid (signOf_any xo)
      have e0 : (⟨(sgB xo).toArray⟩ : ByteArray).size = (sgB xo).length := by simp [ByteArray.size]
      generalize (⟨(sgB xo).toArray⟩ : ByteArray) = sg at *
      have a1 := str_add xn sg (by omega)
      have a2 := str_add (xn ++ sg) ⟨q.toArray⟩ (by have e1 : (xn ++ sg : ByteArray).size = xn.size + sg.size := ByteArray.size_append
                                                    have e2 : (⟨q.toArray⟩ : ByteArray).size = q.length := by simp [ByteArray.size]
                                                    omega)
      generalize xn ++ sg = y1 at *
      generalize y1 ++ ⟨q.toArray⟩ = y2 at *
      obtain ⟨hc0, hf0⟩ := so_slot (k := k) hso hll.symm (by omega)
      generalize ((l.take k).map partRS ++ List.replicate (l.length - k) emptyS)[k] = old at hc0
      have hold : ∀ o, (wr.alloc o).cell? ⟨w.heap.size, k, none⟩ = some (.string old) := fun o => keptA hc0
      have hfro : ∀ o, (wr.alloc o).frozen? ⟨w.heap.size, k, none⟩ = false := fun o => (((Below.refl wr.heap.size wr).alloc (Nat.le_refl _) o).frozen (p := ⟨w.heap.size, k, none⟩) (World.block_lt_of_cell? wr _ hc0)).trans hf0
      have HN := Lib.hid hnext
      have HL := Lib.hid hll
      have G1 := Lib.hid ((HG.out.below hbl).below ((Below.refl wr.heap.size wr).alloc (Nat.le_refl _) (.cells #[.string xn, .int .i64 xo, .string xv] 44)))
      clear hnext hll hqe e0
      have hgk : w.heap.size < wr.heap.size := World.block_lt_of_cell? wr _ hc0
      have HSB := Lib.hid hso
      have HBL := Lib.hid hbl
      have zz : w.heap.size ≤ (wr.alloc (.cells #[.string xn, .int .i64 xo, .string xv] 44)).heap.size := by simp; omega
      clear hso hbl
      go_wp2_with fail
      go_region_with (first
          | (go_at_call 34; refine (HSO.out _ (by first | exact G1.out | exact GW.out)).mono ?_; rintro e w' ⟨rfl, rfl⟩)
          | (go_at_call 35; refine (HQ.out _).mono ?_; rintro e w1 ⟨rfl, hb1⟩; have m0 : w1.cell? ⟨wr.heap.size, 0, none⟩ = some (.string xn) := kept hb1 (by simp); have m1 : w1.cell? ⟨wr.heap.size, 1, none⟩ = some (.int .i64 xo) := kept hb1 (by simp); have mx : w1.cell? ⟨wr.heap.size, 2, none⟩ = some (.string xv) := kept hb1 (by simp); have m2 : w1.cell? ⟨w.heap.size, k, none⟩ = some (.string old) := kept hb1 (by simp [hold]); have m3 : w1.frozen? ⟨w.heap.size, k, none⟩ = false := (hb1.frozen (p := ⟨w.heap.size, k, none⟩) (by simp; omega)).trans (by simp [hfro]); have HB1 := Lib.hid hb1; have GW := Lib.hid (Sg.below (by exact G1.out) hb1); clear hb1))
      all_goals
        go_wp2_with fail
        have hso1 : So encS 1 w1 w.heap.size 9 (.slice (some ⟨w.heap.size, 0, none⟩) l.length l.length) ((l.take k).map partRS ++ List.replicate (l.length - k) emptyS) := by
          first
            | exact (HSB.out.alloc _).below HB1.out
            | exact ((HSB.out.alloc _).drew).below HB1.out
        have hso2 := so_stored hso1 HL.out.symm k y2
        rw [HN.out] at hso2
        have B1 : Below w.heap.size w w1 := by
          first
            | exact (HBL.out.alloc z _).trans (HB1.out.mono zz)
            | exact ((HBL.out.alloc z _).drew).trans (HB1.out.mono zz)
        go_roundw
        case rel => exact ⟨k + 1, by omega, by go_num, hso2, B1.setCell (Nat.le_refl _) _⟩
        case measure => simp [intOf]; omega
    · have hks : k = l.length := by omega
      have hso2 : So encS 1 wr w.heap.size 9 (.slice (some ⟨w.heap.size, 0, none⟩) l.length l.length) (l.map partRS) := by
        have h := hso
        rw [hks, Nat.sub_self, List.take_length] at h
        simpa using h
      have hjl := partsR_len (fun x hx => hS x hx)
      have hjoin : Calls Tryd.prog 36 #[.slice (some ⟨w.heap.size, 0, none⟩) l.length l.length, .string ⟨#[44]⟩] wr (NewStr wr ⟨(Lib.join (l.map partRL) [44]).toArray⟩) := by
        cases hl0 : l with
        | nil =>
          refine (join_none (some ⟨w.heap.size, 0, none⟩) 0 ⟨#[44]⟩ wr).mono ?_
          rintro e w' ⟨rfl, rfl⟩
          exact ⟨rfl, Below.refl _ _⟩
        | cons x r =>
          rw [← hl0]
          have hbk : w.heap.size < wr.heap.size := World.block_lt_of_cell? wr ⟨w.heap.size, 0, none⟩ (so_slot (k := 0) hso2 (by simp) (by rw [hl0]; simp)).1
          have hj := join_any w.heap.size 0 l.length (l.map partRS) ⟨#[44]⟩ wr (fun j y hy => by
            obtain ⟨hj1, hj2⟩ := List.getElem?_eq_some_iff.1 hy
            rw [Nat.zero_add, (so_slot hso2 (by simp) hj1).1, hj2]) hbk (by simp; omega) (by simp) (by rw [partsR_list]; exact Nat.le_trans hjl (by omega))
          rw [partsR_list, List.length_map] at hj
          exact hj
      have HJ := Lib.hid hjoin
      have e1 : (⟨(Lib.join (l.map partRL) [44]).toArray⟩ : ByteArray).size = (Lib.join (l.map partRL) [44]).length := by simp [ByteArray.size]
      have e2 : ((⟨#[123]⟩ ++ ⟨(Lib.join (l.map partRL) [44]).toArray⟩ : ByteArray) ++ ⟨#[125]⟩) = ⟨(textR l).toArray⟩ := by
        apply ByteArray.ext
        apply Array.toList_inj.1
        simp [textR]
      have a1 := str_add ⟨#[123]⟩ ⟨(Lib.join (l.map partRL) [44]).toArray⟩ (by have : (⟨#[123]⟩ : ByteArray).size = 1 := rfl; omega)
      have a2 := str_add (⟨#[123]⟩ ++ ⟨(Lib.join (l.map partRL) [44]).toArray⟩) ⟨#[125]⟩ (by rw [ByteArray.size_append, e1]; have h1 : (⟨#[123]⟩ : ByteArray).size = 1 := rfl; have h2 : (⟨#[125]⟩ : ByteArray).size = 1 := rfl; omega)
      rw [e2] at a2
      have HE := Lib.hid e2
      clear hks hso hso2 hjoin e1 e2 hjl
      generalize (⟨(Lib.join (l.map partRL) [44]).toArray⟩ : ByteArray) = J at *
      generalize (⟨#[123]⟩ ++ J : ByteArray) = J1 at *
      generalize (⟨(textR l).toArray⟩ : ByteArray) = J2 at *
      go_wp2_with (go_at_call 36; refine HJ.out.mono ?_; rintro e w1 ⟨rfl, hb1⟩)
      go_ret
      exact ⟨rfl, hbl.trans (hb1.mono z)⟩
end Go.Proofs.YtfmgphjnajgldaaDoor
