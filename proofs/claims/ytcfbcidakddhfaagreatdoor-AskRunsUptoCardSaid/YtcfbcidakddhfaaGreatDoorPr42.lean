/- The document's Parse of a query. -/
import Derived.Test.YtcfbcidakddhfaaGreatDoorPr39
import Derived.Test.YtcfbcidakddhfaaGreatDoorPr8
import Derived.Test.YtcfbcidakddhfaaGreatDoorPr30
import Derived.Test.YtcfbcidakddhfaaGreatDoorCards
import Derived.Test.YtcfbcidakddhfaaGreatDoorTie
import Derived.Test.YtcfbcidakddhfaaGreatDoorPr40
import Derived.Test.YtcfbcidakddhfaaGreatDoorPr19
import Derived.ProofKit
import Derived.OpenShut
import Derived.Carry
import Derived.SizedLaws
import Derived.JoinedCond
import Derived.HandedShaped
import Derived.Shelf.Vars
import Derived.Deep.DeepHandedRow
import Derived.Lib.LaidTab
import Derived.Lib.SmallJoins
import Derived.Lay
import Derived.MakeChecks
import Derived.ChangeArms
import Derived.Deep.CutBlock
namespace Go.Proofs.YtcfbcidakddhfaaGreatDoor
open Go.RowKit Go.BigFrame

theorem tellQ_len (q : Qr) (g : List Pt) : (tellQ q g).2.1.length ≤ 1 ∧ (tellQ q g).2.2.length ≤ g.length := by
  unfold tellQ
  split
  · exact ⟨by simp, by simp⟩
  · split
    · exact ⟨by simp, by simp⟩
    · exact ⟨by dsimp only; split <;> simp, notesQ_len q g⟩
theorem map_ne {l : List Pz} (h : 0 < l.length) : l.map Prod.fst ≠ [] := fun e => by
  have := congrArg List.length e
  rw [List.length_map, List.length_nil] at this
  omega
theorem run_next (q : Qr) {l : List Pz} {n : Nat} {rows : List Rowq} {notes : List Pt} (h : 0 < l.length) (h1 : 1 ≤ n) (hn : firstN (l.map Prod.fst) = n) (ht : (tellQ q ((l.map Prod.fst).take n)).1 = 0) :
    runGo q (l.drop n).length ((l.drop n).map Prod.fst) (rows ++ (tellQ q ((l.map Prod.fst).take n)).2.1) (notes ++ (tellQ q ((l.map Prod.fst).take n)).2.2) = runGo q l.length (l.map Prod.fst) rows notes := by
  obtain ⟨f, hf⟩ : ∃ f, l.length = f + 1 := ⟨l.length - 1, by omega⟩
  rw [hf, runGo_succ, if_neg (map_ne h), hn, if_neg (by rw [ht]; simp), List.map_drop]
  have hle := firstN_le (l.map Prod.fst)
  rw [hn, List.length_map] at hle
  exact runGo_fuel q _ _ _ _ _ (by rw [List.length_drop, List.length_drop, List.length_map]; omega) (by rw [List.length_drop, List.length_map]; omega)
theorem run_stop (q : Qr) {l : List Pz} {n : Nat} {rows : List Rowq} {notes : List Pt} (h : 0 < l.length) (hn : firstN (l.map Prod.fst) = n) (ht : (tellQ q ((l.map Prod.fst).take n)).1 ≠ 0) :
    runGo q l.length (l.map Prod.fst) rows notes = ((tellQ q ((l.map Prod.fst).take n)).1, [], []) := by
  obtain ⟨f, hf⟩ : ∃ f, l.length = f + 1 := ⟨l.length - 1, by omega⟩
  rw [hf, runGo_succ, if_neg (map_ne h), hn, if_pos ht]
/-- What tell gives, of a value. -/
def TellE (q : Qr) (w : World) (K b : Nat) (rows : List Rz) (notes : List Pz) (lp : List Pt) (v : Value) (w' : World) : Prop :=
  ∃ A1 A2 c1 c2 rs ns, v = .int .i64 (tellQ q lp).1 ∧ rs.map Prod.fst = (tellQ q lp).2.1 ∧ ns.map Prod.fst = (tellQ q lp).2.2 ∧ An w' K b A1 A2 c1 c2 (rows ++ rs) (notes ++ ns) ∧ Below K w w'
/-- What Run gives. -/
def RunP (q : Qr) (w : World) (lp : List Pt) (e : Ending) (w' : World) : Prop :=
  ∃ A1 A2 c1 c2 rs ns, e = .returned (.tuple #[.agg #[.slice A1 rs.length c1, .slice A2 ns.length c2], .int .i64 (runQ q lp).1]) ∧ rs.map Prod.fst = (runQ q lp).2.1 ∧ ns.map Prod.fst = (runQ q lp).2.2 ∧
    Rg w' w.heap.size (.slice A1 rs.length c1) rs ∧ Pw w' w.heap.size 52 54 (.slice A2 ns.length c2) ns ∧ Below w.heap.size w w'
theorem TellP.e {q : Qr} {w w4 w' : World} {K b : Nat} {rows : List Rz} {notes : List Pz} {lp : List Pt} {en : Ending} (h : TellP q w K b rows notes lp en w') (h4 : Below w4.heap.size w4 w) (hK : K ≤ w4.heap.size) : ∃ v, en = .returned v ∧ TellE q w4 K b rows notes lp v w' := by
  obtain ⟨A1, A2, c1, c2, rs, ns, e, h1, h2, h3, h5⟩ := h
  exact ⟨_, e, A1, A2, c1, c2, rs, ns, rfl, h1, h2, h3, (h4.mono hK).trans h5⟩
def lenOf : Value → Nat
  | .slice _ n _ => n
  | _ => 0
set_option maxRecDepth 100000 in
set_option maxHeartbeats 3200000 in
theorem run_any {q : Qr} {A : Option Addr} {c : Nat} (KP KQ : Nat) (B : Option Addr) (n cap : Nat) (l : List Pz) (w : World) (hln : l.length = n) (hp : Ps w KP B cap l) (hKP : KP ≤ w.heap.size)
    (hr : Rr w KQ A c q.rs) (hKQ : KQ ≤ w.heap.size) (hS : SmR q.rs) (hm : Mx w) (h2 : q.st ≤ 9223372036854775807) (hl : l.length ≤ 1048576) (hsm : ∀ x ∈ l, x.1.set.length ≤ 1048576 ∧ Sm x.1.set) (hok : ∀ x ∈ l, Pok x.1) :
    Calls Tryz.prog 5 #[qv q A c, .slice B n cap] w (RunP q w (l.map Prod.fst)) := by
  subst hln
  have hle := hp.sr.le
  have hmax := hp.sr.max
  unfold maxLen at hmax
  have B0 : Below w.heap.size w ((w.alloc (.cells (qc q A c) 36)).alloc (.cells #[.slice none 0 0, .slice none 0 0] 30)) := by go_grown
  have HX : Hid (Rwo ((w.alloc (.cells (qc q A c) 36)).alloc (.cells #[.slice none 0 0, .slice none 0 0] 30)) w.heap.size (qc q A c) 36) := Lib.hid ((show Rwo (w.alloc (.cells (qc q A c) 36)) w.heap.size (qc q A c) 36 from ⟨heap_alloc_new w _⟩).below ((Below.refl _ _).alloc (Nat.le_refl _) _))
  have HR0 : Hid (Rwo ((w.alloc (.cells (qc q A c) 36)).alloc (.cells #[.slice none 0 0, .slice none 0 0] 30)) (w.heap.size + 1) #[.slice none 0 0, .slice none 0 0] 30) := Lib.hid ⟨by
    have := heap_alloc_new (w.alloc (.cells (qc q A c) 36)) (.cells #[.slice none 0 0, .slice none 0 0] 30)
    simpa using this⟩
  have HP := Lib.hid (hp.below (B0.mono hKP))
  have HRR := Lib.hid (hr.below (B0.mono hKQ))
  have HM := Lib.hid (hm.below B0)
  have hz : ((w.alloc (.cells (qc q A c) 36)).alloc (.cells #[.slice none 0 0, .slice none 0 0] 30)).heap.size = w.heap.size + 2 := by simp
  have HB0 := Lib.hid B0
  obtain ⟨W0, hW0⟩ : ∃ W0, W0 = (w.alloc (.cells (qc q A c) 36)).alloc (.cells #[.slice none 0 0, .slice none 0 0] 30) := ⟨_, rfl⟩
  rw [← hW0] at HX HR0 HP HRR HM hz HB0
  have HWW := Lib.hid hW0
  obtain ⟨K, hK⟩ : ∃ K, K = W0.heap.size := ⟨_, rfl⟩
  have hKP : KP ≤ K := by omega
  have hKQ : KQ ≤ K := by omega
  have HQ9 : Hid (∀ W, Below K W0 W → W.cell? ⟨w.heap.size, 0, none⟩ = some (.int .i64 q.op) ∧ W.cell? ⟨w.heap.size, 1, none⟩ = some (.slice A q.rs.length c) ∧ W.cell? ⟨w.heap.size, 2, none⟩ = some (.int .i64 q.fr) ∧ W.cell? ⟨w.heap.size, 3, none⟩ = some (.int .i64 q.to_) ∧ W.cell? ⟨w.heap.size, 4, none⟩ = some (.int .i64 q.st) ∧ W.cell? ⟨w.heap.size, 5, none⟩ = some (.bool q.nt)) := Lib.hid fun W hW => by
    have h : Rwo W w.heap.size (qc q A c) 36 := HX.out.below (hK ▸ hW)
    exact ⟨h.cell rfl, h.cell rfl, h.cell rfl, h.cell rfl, h.cell rfl, h.cell rfl⟩
  have HZ9 : Hid (∀ W, Below K W0 W → w.heap.size < W.heap.size) := Lib.hid fun W hW => by have := hW.size; omega
  have HRX : Hid (∀ W, Below K W0 W → Rwo W (w.heap.size + 1) #[.slice none 0 0, .slice none 0 0] 30) := Lib.hid fun W hW => HR0.out.below (hK ▸ hW)
  have HEND : Hid (∀ W, Below K W0 W → Below w.heap.size w (((W.setCell ⟨w.heap.size + 1, 0, none⟩ (.slice none 0 0)).setCell ⟨w.heap.size + 1, 1, none⟩ (.slice none 0 0)))) := Lib.hid fun W hW => ((HB0.out.trans (hW.mono (by omega))).setCell (p := ⟨w.heap.size + 1, 0, none⟩) (Nat.le_succ _) _).setCell (p := ⟨w.heap.size + 1, 1, none⟩) (Nat.le_succ _) _
  have HRI := Lib.hid (akRight_any (w := W0) (A := A) (c := c) (HRR.out) (by omega) hS h2)
  clear hp hr hm B0 hW0
  cases hri : rightQ q with
  | false =>
    rw [hri] at HRI
    have HT : Hid (runQ q (l.map Prod.fst) = (1, [], [])) := Lib.hid (if_pos (.inl hri))
    obtain ⟨q0, q1, q2, q3, q4, q5⟩ := HQ9.out W0 (Below.refl _ _)
    have qz := HZ9.out W0 (Below.refl _ _)
    clear hri
    go_enter Tryz.func5, Tryz.ntmps5
    go_upto_region 1 with fail
    rw [← HWW.out]
    go_wp2_with fail
    refine HRI.out.mono ?_
    rintro e w1 ⟨rfl, b1⟩
    have hrx := HRX.out w1 (hK ▸ b1)
    have r0 : w1.cell? ⟨w.heap.size + 1, 0, none⟩ = some (.slice none 0 0) := hrx.cell rfl
    have r1 : w1.cell? ⟨w.heap.size + 1, 1, none⟩ = some (.slice none 0 0) := hrx.cell rfl
    have rf := hrx.fr
    have rl := hrx.lt
    have HRZ := Lib.hid hrx
    have HB1 : Hid (Below K W0 w1) := Lib.hid (hK ▸ b1)
    clear hrx b1 q0 q1 q2 q3 q4 q5 qz
    go_wp2_with fail
    have s0 := (HRZ.out.set 0 (.slice none 0 0)).set 1 (.slice none 0 0)
    have t0 := s0.cell (i := 0) (v := .slice none 0 0) rfl
    have t1 := s0.cell (i := 1) (v := .slice none 0 0) rfl
    exact bodyPost_ret (v := .tuple #[.agg #[.slice none 0 0, .slice none 0 0], .int .i64 1]) (by simp [results, Tryz.results5, go_sem, t0, t1]) rfl ⟨none, none, 0, 0, [], [], by rw [HT.out]; rfl, by rw [HT.out]; rfl, by rw [HT.out]; rfl, Rg.empty _ _, Pw.empty _ _ _ _, HEND.out w1 HB1.out⟩
  | true =>
  rw [hri] at HRI
  by_cases hbig : 65536 < l.length
  · have HT : Hid (runQ q (l.map Prod.fst) = (1, [], [])) := Lib.hid (if_pos (.inr (by rw [List.length_map]; exact hbig)))
    obtain ⟨q0, q1, q2, q3, q4, q5⟩ := HQ9.out W0 (Below.refl _ _)
    have qz := HZ9.out W0 (Below.refl _ _)
    have hbg : (65536 : Int) < l.length := by omega
    clear hri
    go_enter Tryz.func5, Tryz.ntmps5
    go_upto_region 1 with fail
    rw [← HWW.out]
    go_wp2_with fail
    refine HRI.out.mono ?_
    rintro e w1 ⟨rfl, b1⟩
    have hrx := HRX.out w1 (hK ▸ b1)
    have r0 : w1.cell? ⟨w.heap.size + 1, 0, none⟩ = some (.slice none 0 0) := hrx.cell rfl
    have r1 : w1.cell? ⟨w.heap.size + 1, 1, none⟩ = some (.slice none 0 0) := hrx.cell rfl
    have rf := hrx.fr
    have rl := hrx.lt
    have HRZ := Lib.hid hrx
    have HB1 : Hid (Below K W0 w1) := Lib.hid (hK ▸ b1)
    clear hrx b1 q0 q1 q2 q3 q4 q5 qz
    go_wp2_with fail
    have s0 := (HRZ.out.set 0 (.slice none 0 0)).set 1 (.slice none 0 0)
    have t0 := s0.cell (i := 0) (v := .slice none 0 0) rfl
    have t1 := s0.cell (i := 1) (v := .slice none 0 0) rfl
    exact bodyPost_ret (v := .tuple #[.agg #[.slice none 0 0, .slice none 0 0], .int .i64 1]) (by simp [results, Tryz.results5, go_sem, t0, t1]) rfl ⟨none, none, 0, 0, [], [], by rw [HT.out]; rfl, by rw [HT.out]; rfl, by rw [HT.out]; rfl, Rg.empty _ _, Pw.empty _ _ _ _, HEND.out w1 HB1.out⟩
  · have HTE : Hid (runQ q (l.map Prod.fst) = runGo q l.length (l.map Prod.fst) [] []) := Lib.hid (by
      unfold runQ
      rw [if_neg (by rw [List.length_map, hri]; rintro (h | h); (· cases h); exact hbig h), List.length_map])
    obtain ⟨res, hres⟩ : ∃ res, res = runGo q l.length (l.map Prod.fst) [] [] := ⟨_, rfl⟩
    have HRES := Lib.hid hres
    rw [← hres] at HTE
    obtain ⟨q0, q1, q2, q3, q4, q5⟩ := HQ9.out W0 (Below.refl _ _)
    have qz := HZ9.out W0 (Below.refl _ _)
    have hbg : ¬ (65536 : Int) < l.length := by omega
    have HSM := Lib.hid hsm
    have HOK := Lib.hid hok
    have HSR := Lib.hid hS
    clear hri hres hsm hok hS
    go_enter Tryz.func5, Tryz.ntmps5
    go_upto_region 1 with fail
    rw [← HWW.out]
    go_wp2_with fail
    refine HRI.out.mono ?_
    rintro e w1 ⟨rfl, b1⟩
    have HB1 : Hid (Below K W0 w1) := Lib.hid (hK ▸ b1)
    clear b1 q0 q1 q2 q3 q4 q5 qz
    have hbK : K ≤ w1.heap.size := by have := HB1.out.size; omega
    have HBA : Hid (Below K W0 (w1.alloc (.cells #[.slice none 0 0, .slice none 0 0] 30))) := Lib.hid (HB1.out.alloc hbK _)
    have HA0 : Hid (An (w1.alloc (.cells #[.slice none 0 0, .slice none 0 0] 30)) K w1.heap.size none none 0 0 [] []) := Lib.hid ⟨⟨heap_alloc_new w1 _⟩, Rg.empty _ _, Pw.empty _ _ _ _⟩
    have HPA := Lib.hid (HP.out.below (HBA.out.mono hKP))
    obtain ⟨b, hb⟩ : ∃ b, b = w1.heap.size := ⟨_, rfl⟩
    obtain ⟨W2, hW2⟩ : ∃ W2, W2 = w1.alloc (.cells #[.slice none 0 0, .slice none 0 0] 30) := ⟨_, rfl⟩
    have HBB := Lib.hid hb
    rw [← hW2, ← hb] at HA0
    rw [← hW2] at HBA HPA
    have HW2 := Lib.hid hW2
    clear hb hW2 HP
    go_wp2_with fail
    rw [← HBB.out, ← HW2.out]
    rw [← HBB.out] at hbK
    clear HW2 HBB HB1
    go_loopw [1, 7, 8] (fun v1 v7 v8 wr => ∃ (B' : Option Addr) (n' cap' : Nat) (l' : List Pz) (rows : List Rz) (notes : List Pz) (A1 A2 : Option Addr) (c1 c2 : Nat), v1 = .slice B' n' cap' ∧ l'.length = n' ∧ Ps wr KP B' cap' l' ∧ (∀ x ∈ l', x ∈ l) ∧ An wr K b A1 A2 c1 c2 rows notes ∧ Hid (runGo q l'.length (l'.map Prod.fst) (rows.map Prod.fst) (notes.map Prod.fst) = res) ∧ Below K W0 wr ∧ rows.length + n' ≤ l.length ∧ notes.length + n' ≤ l.length) (fun v1 _ _ _ => lenOf v1)
    case atStart => exact ⟨B, l.length, cap, l, [], [], none, none, 0, 0, rfl, rfl, HPA.out, fun x hx => hx, HA0.out, Lib.hid HRES.out.symm, HBA.out, by simp, by simp⟩
    case round =>
      obtain ⟨B', n', cap', l', rows, notes, A1, A2, c1, c2, rfl, hln, hp', hs', han, HR, hbl, hrl, hnl⟩ := hrel
      subst hln
      rename World => wr
      have hle := hp'.sr.le
      have hmax := hp'.sr.max
      unfold maxLen at hmax
      have HBL := Lib.hid hbl
      have HAN := Lib.hid han
      have HS := Lib.hid hs'
      have HP := Lib.hid hp'
      obtain ⟨q0, q1, q2, q3, q4, q5⟩ := HQ9.out wr hbl
      have qz := HZ9.out wr hbl
      have hKr : K ≤ wr.heap.size := by have := hbl.size; omega
      clear hbl han hs' hp'
      by_cases hnn : 0 < l'.length
      rotate_left
      · have hl0 : l' = [] := List.eq_nil_of_length_eq_zero (by omega)
        subst hl0
        have HE9 : Hid (res = (0, rows.map Prod.fst, notes.map Prod.fst)) := Lib.hid (by rw [← HR.out]; rfl)
        have hrx := HRX.out wr HBL.out
        have r0 : wr.cell? ⟨w.heap.size + 1, 0, none⟩ = some (.slice none 0 0) := hrx.cell rfl
        have r1 : wr.cell? ⟨w.heap.size + 1, 1, none⟩ = some (.slice none 0 0) := hrx.cell rfl
        have rf := hrx.fr
        have rl := hrx.lt
        have a0 : wr.cell? ⟨b, 0, none⟩ = some (.slice A1 rows.length c1) := HAN.out.bx.cell rfl
        have a1 : wr.cell? ⟨b, 1, none⟩ = some (.slice A2 notes.length c2) := HAN.out.bx.cell rfl
        have al := HAN.out.bx.lt
        have HRZ := Lib.hid hrx
        clear hrx
        go_wp2_with fail
        have s0 := (HRZ.out.set 0 (.slice A1 rows.length c1)).set 1 (.slice A2 notes.length c2)
        have t0 := s0.cell (i := 0) (v := .slice A1 rows.length c1) rfl
        have t1 := s0.cell (i := 1) (v := .slice A2 notes.length c2) rfl
        exact bodyPost_ret (v := .tuple #[.agg #[.slice A1 rows.length c1, .slice A2 notes.length c2], .int .i64 0]) (by simp [results, Tryz.results5, go_sem, t0, t1]) rfl ⟨A1, A2, c1, c2, rows, notes, by rw [HTE.out, HE9.out], by rw [HTE.out, HE9.out], by rw [HTE.out, HE9.out],
          ((HAN.out.rg.set HRZ.out 0 _).set (HRZ.out.set 0 _) 1 _).more (by omega), ((HAN.out.pw.setA HRZ.out 0 _).setA (HRZ.out.set 0 _) 1 _).more (by omega), ((HB0.out.trans (HBL.out.mono (by omega))).setCell (p := ⟨w.heap.size + 1, 0, none⟩) (Nat.le_succ _) _).setCell (p := ⟨w.heap.size + 1, 1, none⟩) (Nat.le_succ _) _⟩
      have hn0 : (0 : Int) < l'.length := by omega
      have HOF := Lib.hid (ofFirst_any KP l'.length cap' B' l' hnn wr HP.out (Nat.le_trans hKP hKr) rfl)
      obtain ⟨n1, hn1⟩ : ∃ n1, firstN (l'.map Prod.fst) = n1 := ⟨_, rfl⟩
      have hf1 := firstN_pos (map_ne hnn)
      have hf2 := firstN_le (l'.map Prod.fst)
      rw [List.length_map] at hf2
      rw [hn1] at HOF hf1 hf2
      have hfn := Lib.hid hn1
      clear hn1
      go_upto_region 6 with (go_at_call 16; refine HOF.out.mono ?_; rintro e w4 ⟨rfl, b4⟩)
      have HB4 := Lib.hid (HBL.out.trans (b4.mono hKr))
      have hz4 : wr.heap.size ≤ w4.heap.size := b4.size
      have hK4 := Lib.hid (Nat.le_trans hKr hz4)
      have hst := fun W => slice_toK undP szP B' l'.length cap' n1 (by omega) W
      have HT : Hid (∀ W, Below w4.heap.size w4 W → Calls Tryz.prog 17 #[.pointer (some ⟨b, 0, none⟩), qv q A c, .slice B' n1 cap'] W (TellP q W K b rows notes (l'.map Prod.fst |>.take n1))) := Lib.hid fun W hW => by
        have hb1 := HB4.out.trans (hW.mono hK4.out)
        refine tell_any KP K KQ b B' n1 cap' (l'.take n1) _ rows notes A1 A2 c1 c2 W (by rw [List.length_take]; omega) (by rw [List.map_take]) (by rw [List.length_take]; omega) ((HP.out.to hf2).below (((b4.mono hKr).trans (hW.mono hK4.out)).mono hKP)) hKP (Nat.le_trans hK4.out hW.size) hbK
          (HRR.out.below (hb1.mono hKQ)) hKQ (HM.out.below (hK ▸ hb1)) h2 (HAN.out.below (b4.trans (hW.mono hz4))) (by rw [List.length_take]; omega) (fun x hx => HSM.out x (HS.out x (List.mem_of_mem_take hx))) (fun x hx => HOK.out x (HS.out x (List.mem_of_mem_take hx))) (by omega) (by omega)
      have HP4 := Lib.hid (HP.out.below (b4.mono (Nat.le_trans hKP hKr)))
      clear HP b4 q0 q1 q2 q3 q4 q5 qz HOF
      have HP := HP4
      clear HP4
      apply region_VT (fun (pv : Value) u (_ : World) => u = pv) (fun wx => Below w4.heap.size w4 wx) (fun v wx => TellE q w4 K b rows notes (l'.map Prod.fst |>.take n1) v wx) 4 [(qv q A c), (.slice B' l'.length cap'), (.int .i64 (n1 : Nat)), (.slice B' n1 cap'), undef] (undef)
      case mono => exact fun p v w0 w1 h hb => h
      case hm => kernel_rfl
      case hf => kernel_rfl
      case hl => kernel_rfl
      case hQ => exact (by intro c x y w e h; exact And.intro (e.symm.trans (And.left h)) (And.right h))
      case hF => intro vs; simp only [putAll, Act.put, List.setIfInBounds_toArray, List.set_cons_zero, List.set_cons_succ, Nat.reduceAdd]; rfl
      case h0 => exact ⟨rfl, rfl, rfl, Nat.le_refl _, fun _ _ => rfl⟩
      case hstep =>
        repeat' (first | exact AllOps.nil | apply AllOps.cons)
        · intro vs wx hG hd K9 hK
          replace hK : ∀ (uu : Value) (w' : World), Below wx.heap.size wx w' → ((fun wx => Below w4.heap.size w4 wx)) w' → (fun (pv : Value) u (_ : World) => u = pv) ((qv q A c)) uu w' → K9 _ w' := hK
          simp only [Act.put, List.setIfInBounds_toArray, List.set_cons_zero, List.set_cons_succ] at hK ⊢
          have HK := Lib.hid hK
          have HG := Lib.hid hG
          clear hK hd
          obtain ⟨q0, q1, q2, q3, q4, q5⟩ := HQ9.out wx (HB4.out.trans (HG.out.mono hK4.out))
          have qz := HZ9.out wx (HB4.out.trans (HG.out.mono hK4.out))
          clear hG
          go_simp
          exact HK.out _ _ (Below.refl _ _) HG.out rfl
        · intro vs wx hG hd K9 hK
          replace hK : ∀ (uu : Value) (w' : World), Below wx.heap.size wx w' → ((fun wx => Below w4.heap.size w4 wx)) w' → (fun (pv : Value) u (_ : World) => u = pv) ((.slice B' l'.length cap')) uu w' → K9 _ w' := hK
          simp only [Act.put, List.setIfInBounds_toArray, List.set_cons_zero, List.set_cons_succ] at hK ⊢
          have HK := Lib.hid hK
          have HG := Lib.hid hG
          clear hK hd
          clear hG
          go_simp
          exact HK.out _ _ (Below.refl _ _) HG.out rfl
        · intro vs wx hG hd K9 hK
          replace hK : ∀ (uu : Value) (w' : World), Below wx.heap.size wx w' → ((fun wx => Below w4.heap.size w4 wx)) w' → (fun (pv : Value) u (_ : World) => u = pv) ((.int .i64 (n1 : Nat))) uu w' → K9 _ w' := hK
          simp only [Act.put, List.setIfInBounds_toArray, List.set_cons_zero, List.set_cons_succ] at hK ⊢
          have HK := Lib.hid hK
          have HG := Lib.hid hG
          clear hK hd
          clear hG
          go_simp
          exact HK.out _ _ (Below.refl _ _) HG.out rfl
        · intro vs wx hG hd K9 hK
          have e1 : vs 1 = (.slice B' l'.length cap') := hd.get (j := 1) (by simp [depsOf, Region.binds])
          have e2 : vs 2 = .int .i64 (n1 : Nat) := hd.get (j := 2) (by simp [depsOf, Region.binds])
          replace hK : ∀ (uu : Value) (w' : World), Below wx.heap.size wx w' → ((fun wx => Below w4.heap.size w4 wx)) w' → (fun (pv : Value) u (_ : World) => u = pv) ((.slice B' n1 cap')) uu w' → K9 _ w' := hK
          simp only [Act.put, List.setIfInBounds_toArray, List.set_cons_zero, List.set_cons_succ, e1, e2] at hK ⊢
          have HK := Lib.hid hK
          have HG := Lib.hid hG
          clear hK hd e1 e2
          clear hG
          go_simp
          exact HK.out _ _ (Below.refl _ _) HG.out rfl
        · intro vs wx hG hd K9 hK
          have e0 : vs 0 = qv q A c := hd.get (j := 0) (by simp [depsOf, Region.binds])
          have e3 : vs 3 = (.slice B' n1 cap') := hd.get (j := 3) (by simp [depsOf, Region.binds])
          replace hK : ∀ (uu : Value) (w' : World), ((fun v wx => TellE q w4 K b rows notes (l'.map Prod.fst |>.take n1) v wx)) uu w' → K9 _ w' := hK
          simp only [Act.put, List.setIfInBounds_toArray, List.set_cons_zero, List.set_cons_succ, e0, e3] at hK ⊢
          have HK := Lib.hid hK
          have HG := Lib.hid hG
          clear hK hd e0 e3
          clear hG
          go_simp
          go_at_call 17
          refine (HT.out wx HG.out).mono ?_
          rintro en w9 hte
          obtain ⟨v9, rfl, hv9⟩ := hte.e HG.out hK4.out
          exact HK.out _ _ hv9
        · intro vs wx hE K9 hK
          simp only [Act.put, List.setIfInBounds_toArray, List.set_cons_zero, List.set_cons_succ] at hK ⊢
          have HK := Lib.hid hK
          clear hK hE
          go_simp
          exact HK.out
      case hend =>
        intro vs wx hE e5
        obtain ⟨A3, A4, c3, c4, rs, ns, ev4, hrs, hns, han, hbe⟩ := hE
        have ev5 : vs 5 = .int .i64 (tellQ q (l'.map Prod.fst |>.take n1)).1 := e5.trans ev4
        have HRS := Lib.hid hrs
        have HNS := Lib.hid hns
        have HAN := Lib.hid han
        have HBE := Lib.hid (HB4.out.trans hbe)
        have HBE4 := Lib.hid hbe
        clear e5 hrs hns han hbe
        rw [ev5]
        clear ev5 ev4
        by_cases her : (tellQ q (l'.map Prod.fst |>.take n1)).1 = 0
        · have her2 : ((tellQ q (l'.map Prod.fst |>.take n1)).1 == (0 : Int)) = true := by simpa using her
          have HN : Hid (runGo q (l'.drop n1).length ((l'.drop n1).map Prod.fst) ((rows ++ rs).map Prod.fst) ((notes ++ ns).map Prod.fst) = res) := Lib.hid (by
            rw [← HR.out, List.map_append, List.map_append, HRS.out, HNS.out, run_next q hnn (by omega) hfn.out her])
          have hl9 := tellQ_len q (l'.map Prod.fst |>.take n1)
          have h91 : rs.length ≤ n1 := by
            have := congrArg List.length HRS.out
            rw [List.length_map] at this
            omega
          have h92 : ns.length ≤ n1 := by
            have := congrArg List.length HNS.out
            rw [List.length_map] at this
            have h93 := hl9.2
            rw [List.length_take] at h93
            omega
          generalize (tellQ q (l'.map Prod.fst |>.take n1)).1 = er at *
          clear her hl9
          have hsf := fun W => slice_fromK undP szP B' l'.length cap' n1 (by omega) W
          have HPF := Lib.hid ((HP.out.from (j := n1) (by omega)).below (HBE4.out.mono hKP))
          have hdl : (l'.drop n1).length = l'.length - n1 := List.length_drop
          have HDL := Lib.hid hdl
          have HS9 : Hid (∀ x ∈ l'.drop n1, x ∈ l) := Lib.hid fun x hx => HS.out x (List.mem_of_mem_drop hx)
          generalize l'.drop n1 = ld at *
          generalize (if cap' = n1 then B' else B'.map (·.add (n1 * 8))) = B9 at *
          clear hdl HT
          go_wp2_with fail
          go_roundw
          case rel => exact ⟨B9, l'.length - n1, cap' - n1, ld, rows ++ rs, notes ++ ns, A3, A4, c3, c4, rfl, HDL.out, HPF.out, HS9.out, HAN.out, HN, HBE.out, by rw [List.length_append]; omega, by rw [List.length_append]; omega⟩
          case measure => simp [lenOf]; omega
        · have her2 : ((tellQ q (l'.map Prod.fst |>.take n1)).1 == (0 : Int)) = false := by simpa using her
          have HE9 : Hid (res = ((tellQ q (l'.map Prod.fst |>.take n1)).1, [], [])) := Lib.hid (by
            rw [← HR.out]
            exact run_stop q hnn hfn.out her)
          generalize (tellQ q (l'.map Prod.fst |>.take n1)).1 = er at *
          have hrx := HRX.out wx HBE.out
          have r0 : wx.cell? ⟨w.heap.size + 1, 0, none⟩ = some (.slice none 0 0) := hrx.cell rfl
          have r1 : wx.cell? ⟨w.heap.size + 1, 1, none⟩ = some (.slice none 0 0) := hrx.cell rfl
          have rf := hrx.fr
          have rl := hrx.lt
          have HRZ := Lib.hid hrx
          clear her hrx
          go_wp2_with fail
          have s0 := (HRZ.out.set 0 (.slice none 0 0)).set 1 (.slice none 0 0)
          have t0 := s0.cell (i := 0) (v := .slice none 0 0) rfl
          have t1 := s0.cell (i := 1) (v := .slice none 0 0) rfl
          exact bodyPost_ret (v := .tuple #[.agg #[.slice none 0 0, .slice none 0 0], .int .i64 er]) (by simp [results, Tryz.results5, go_sem, t0, t1]) rfl ⟨none, none, 0, 0, [], [], by rw [HTE.out, HE9.out]; rfl, by rw [HTE.out, HE9.out]; rfl, by rw [HTE.out, HE9.out]; rfl, Rg.empty _ _, Pw.empty _ _ _ _, HEND.out wx HBE.out⟩
end Go.Proofs.YtcfbcidakddhfaaGreatDoor
namespace Go.Proofs.YtcfbcidakddhfaaGreatDoor
open Go.ChangeShapes Go.WideShapes Go.ChangeAt Go.RowKit Go.Joins Go.Deep

theorem gPowType : (Tryz.prog.globals[5]?).map (·.type) = some 214 := by kernel_rfl
theorem cellsPow : Tryz.prog.cellsOf 214 = 20 := by kernel_rfl
theorem cellsU64 : Tryz.prog.cellsOf 163 = 1 := by kernel_rfl
theorem powData : (Rows.laid_internal_strconv_uint64pow10 : DataW Unit) = Lib.tabData .u64 Lib.pow10Tab := by kernel_rfl
theorem gRange : Tryz.prog.globalNamed "strconv.ErrRange" = some 4 := by kernel_rfl
theorem gRangeType : (Tryz.prog.globals[4]?).map (·.type) = some 158 := by kernel_rfl
theorem gSyntax : Tryz.prog.globalNamed "strconv.ErrSyntax" = some 3 := by kernel_rfl
theorem gSyntaxType : (Tryz.prog.globals[3]?).map (·.type) = some 158 := by kernel_rfl
theorem iface_var {W : World} {name : String} {g : Nat} {cs : Array Value} {fuel : Nat} {nm : String} {d : DataW Unit} {p : List MemPlace} (hg : Tryz.prog.globalNamed name = some g) (hvar : W.var? Tryz.prog name = some cs)
    (hd : DataW.trod (fun _ => ()) Tryz.prog W 0 (fun _ => true) false fuel 158 cs.toList = some (.iface nm d, p)) : ∃ te pe, W.cell? ⟨g, 0, none⟩ = some (.iface te pe) := by
  obtain ⟨_, u, v, hcs, _, _⟩ := iface_of_trod Tryz.underlying158 hd
  have h := World.var?_cell hg hvar 0
  refine ⟨u, v, h.trans ?_⟩
  have e : cs.toList[0]? = some (.iface u v) := by rw [hcs]; rfl
  simpa using e
set_option maxRecDepth 100000 in
theorem open_rls1 {H : Type} {enc : TypeId × Value → H} {W : World} {fuel : Nat} {cs : List Value} {d : DataW H} {p : List MemPlace}
    (hf : DataW.trod enc Tryz.prog W 0 (fun _ => true) true fuel 22 cs = some (d, p)) :
    ∃ A cap l, cs = [.slice A l.length cap] ∧ Rr W W.heap.size A cap l ∧ l.length ≤ Rows.uptoBulk d ∧ ∀ x ∈ l, x.1.size ≤ Rows.uptoBulk d ∧ x.2.2.size ≤ Rows.uptoBulk d := by
  rcases open_slice Tryz.underlying22 hf with ⟨hcs, hx⟩ | ⟨a, len, cap, m, n, D, Pl, hcs, _, hl, hmx, hmm, hx, hi⟩
  · subst hcs
    exact ⟨none, 0, [], rfl, Sr.none_ _ _, by simp, fun x hx => by simp at hx⟩
  · subst hcs
    have hlm : len ≤ m := by rw [hmm]; split <;> omega
    have each : ∀ i, i < len → ∃ x : Rp, W.cell? (a.add (i * 3)) = some (.string x.1) ∧ W.cell? (a.add (i * 3 + 1)) = some (.int .i64 x.2.1) ∧ W.cell? (a.add (i * 3 + 2)) = some (.string x.2.2) ∧ D i = .agg [.lit (.string x.1.data.toList), .lit (.int .i64 x.2.1), .lit (.string x.2.2.data.toList)] := fun i hil => by
      obtain ⟨cs', hc, ht⟩ := hi i (by omega)
      rw [cells_rr] at hc
      obtain ⟨_, hcl, hat⟩ := World.cells?_some hc
      obtain ⟨ys, n', _, hy, _, hlen, hg⟩ := DataW.trod_struct Tryz.underlying107 ht
      match cs', hcl with
      | [u0, u1, u2], _ =>
        have hone := one_rr Tryz.underlying107
        have g0 := hg 0 _ rfl
        have g1 := hg 1 _ rfl
        have g2 := hg 2 _ rfl
        obtain ⟨o0, k0⟩ := hone_of hone 0 _ rfl
        obtain ⟨o1, k1⟩ := hone_of hone 1 _ rfl
        obtain ⟨o2, k2⟩ := hone_of hone 2 _ rfl
        rw [o0, k0] at g0
        rw [o1, k1] at g1
        rw [o2, k2] at g2
        simp only [List.drop_zero, List.take_succ_cons, List.take_zero, List.drop_succ_cons] at g0 g1 g2
        match ys, hlen with
        | [y0, y1, y2], _ =>
          obtain ⟨s0, e0, d0, _⟩ := DataW.trod_string Tryz.underlying9 g0
          obtain ⟨s1, e1, d1, _⟩ := DataW.trod_int Tryz.underlying3 g1
          obtain ⟨s2, e2, d2, _⟩ := DataW.trod_string Tryz.underlying9 g2
          simp at e0 e1 e2
          subst e0 e1 e2 d0 d1 d2
          have h0 := hat 0 (by omega)
          have h1 := hat 1 (by omega)
          have h2 := hat 2 (by omega)
          rw [Go.Deep.add_add] at h0 h1 h2
          rw [Nat.add_zero] at h0
          simp only [Prod.mk.injEq] at hy
          exact ⟨(s0, s1, s2), h0, h1, h2, by rw [hy.1]; rfl⟩
    obtain ⟨f, hf'⟩ := choose_lt each
    have hll : ((List.range len).map f).length = len := by simp
    simp only [Prod.mk.injEq] at hx
    have hbulk := len_le_bulk ((List.range len).map D)
    simp only [List.length_map, List.length_range] at hbulk
    refine ⟨some a, cap, (List.range len).map f, by rw [hll], ⟨by rw [hll]; exact hl, hmx, (fun h => by cases h), fun hn => ⟨a, rfl, ?_, fun i x hk => ?_⟩⟩, ?_, ?_⟩
    · rw [hll] at hn
      have := World.block_lt_of_cell? W _ (hf' 0 hn).1
      rwa [el_block_of_add] at this
    · simp only [List.getElem?_map, Option.map_eq_some_iff] at hk
      obtain ⟨j, hj, he⟩ := hk
      obtain ⟨hj1, hj2⟩ := List.getElem?_eq_some_iff.1 hj
      simp at hj1 hj2
      subst hj2
      have h2 := hf' i hj1
      rw [he] at h2
      intro q u hu
      match q, hu with
      | 0, hu =>
        simp [encR] at hu
        subst hu
        exact h2.1
      | 1, hu =>
        simp [encR] at hu
        subst hu
        exact h2.2.1
      | 2, hu =>
        simp [encR] at hu
        subst hu
        exact h2.2.2.1
    · rw [hll, hx.1]
      simp only [Rows.uptoBulk]
      omega
    · intro x hxm
      obtain ⟨i, hi1, rfl⟩ := List.mem_map.1 hxm
      rw [List.mem_range] at hi1
      have hD := (hf' i hi1).2.2.2
      have hmem : D i ∈ (List.range len).map D := List.mem_map.2 ⟨i, List.mem_range.2 hi1, rfl⟩
      have hb := bulk_mem _ _ hmem
      rw [hD] at hb
      simp only [Rows.uptoBulk, Rows.uptoBulkAll] at hb
      have l1 : (f i).1.data.toList.length = (f i).1.size := by simp
      have l2 : (f i).2.2.data.toList.length = (f i).2.2.size := by simp
      rw [hx.1]
      simp only [Rows.uptoBulk]
      omega
theorem sgData : (Rows.laid_slackwater_match_signs : DataW Unit) = strData [[], [61], [33, 61], [94, 61], [42, 61]] := by rfl
theorem woData : (Rows.laid_slackwater_ask_words : DataW Unit) = strData [[112, 111, 105, 110, 116, 115], [115, 117, 109], [99, 111, 117, 110, 116], [109, 105, 110], [109, 97, 120], [100, 101, 108, 116, 97]] := by rfl
theorem gWor : Tryz.prog.globalNamed "slackwater/ask.words" = some 0 := by kernel_rfl
theorem gWorType : (Tryz.prog.globals[0]?).map (·.type) = some 131 := by kernel_rfl
theorem cellsWor : Tryz.prog.cellsOf 131 = 6 := by kernel_rfl
theorem ask_vars_of {W : World} (h : laidMet Tryz.prog Rows.askRunsUptoRow.laid W) : Pow W ∧ Errs W ∧ Sg W ∧ Wo W := by
  obtain ⟨ps, hV, _, _⟩ := h
  obtain ⟨_, _, _, _, _, _, _, _, _, _, h2, _⟩ := hV
  obtain ⟨_, _, _, _, _, _, _, _, _, _, h3, _⟩ := h2
  obtain ⟨g3, t3, c3, f3, p3, q3, hg3, ht3, hv3, hd3, h4, _⟩ := h3
  obtain ⟨g5, t5, c5, f5, p5, q5, hg5, ht5, hv5, hd5, h5, _⟩ := h4
  obtain ⟨g6, t6, c6, f6, p6, q6, hg6, ht6, hv6, hd6, h6, _⟩ := h5
  obtain ⟨g7, t7, c7, f7, p7, q7, hg7, ht7, hv7, hd7, h7, _⟩ := h6
  obtain ⟨g8, t8, c8, f8, p8, q8, hg8, ht8, hv8, hd8, _, _⟩ := h7
  obtain rfl := Option.some.inj (gPow.symm.trans hg3)
  obtain rfl := Option.some.inj (gPowType.symm.trans ht3)
  obtain rfl := Option.some.inj (gRange.symm.trans hg5)
  obtain rfl := Option.some.inj (gRangeType.symm.trans ht5)
  obtain rfl := Option.some.inj (gSyntax.symm.trans hg6)
  obtain rfl := Option.some.inj (gSyntaxType.symm.trans ht6)
  obtain rfl := Option.some.inj (gSig.symm.trans hg7)
  obtain rfl := Option.some.inj (gSigType.symm.trans ht7)
  obtain rfl := Option.some.inj (gWor.symm.trans hg8)
  obtain rfl := Option.some.inj (gWorType.symm.trans ht8)
  rw [powData] at hd3
  rw [sgData] at hd7
  rw [woData] at hd8
  refine ⟨?_, ⟨iface_var gSyntax hv6 hd6, iface_var gRange hv5 hd5⟩, ?_, ?_⟩
  · have hc := Lib.cells_of_tab Tryz.underlying214 Tryz.underlying163 cellsU64 cellsPow hd3
    unfold Pow Lib.TabIs
    rw [hv3, ← hc]
  · have hc := cells_of_strs Tryz.underlying177 Tryz.underlying9 cellsStr cellsSig hd7
    have hv := World.var?_cell gSig hv7
    have ha : ∀ (i : Nat) (u : Value), c7.toList[i]? = some u → W.cell? ⟨2, i, none⟩ = some u := fun i u hu => by
      have := hv i
      rw [this]
      simpa using hu
    rw [hc] at ha
    exact ⟨ha 1 _ rfl, ha 2 _ rfl, ha 3 _ rfl, ha 4 _ rfl⟩
  · have hc := cells_of_strs Tryz.underlying131 Tryz.underlying9 cellsStr cellsWor hd8
    have hv := World.var?_cell gWor hv8
    have ha : ∀ (i : Nat) (u : Value), c8.toList[i]? = some u → W.cell? ⟨0, i, none⟩ = some u := fun i u hu => by
      have := hv i
      rw [this]
      simpa using hu
    rw [hc] at ha
    intro i hi
    match i, hi with
    | 0, _ => exact ha 0 _ rfl
    | 1, _ => exact ha 1 _ rfl
    | 2, _ => exact ha 2 _ rfl
    | 3, _ => exact ha 3 _ rfl
    | 4, _ => exact ha 4 _ rfl
    | 5, _ => exact ha 5 _ rfl
theorem cells_qu : Tryz.prog.cellsOf 24 = 6 := by kernel_rfl
theorem one_qu : ∀ {fs : Array Field}, Tryz.prog.underlying 24 = some (.struct fs) → oneCellFields Tryz.prog fs = true := by
  intro fs h
  rw [Tryz.underlying24] at h
  injection h with h
  injection h with h
  subst h
  kernel_rfl
theorem wf_i64 {n : Int} (h : (Lit.int .i64 n).wf = true) : -9223372036854775808 ≤ n ∧ n ≤ 9223372036854775807 := by simpa [Lit.wf, IntKind.min, IntKind.max, IntKind.signed, IntKind.bits] using h
set_option maxRecDepth 100000 in
theorem open_qu {H : Type} {enc : TypeId × Value → H} {W : World} {base : Nat} {v : Value} {d : DataW H} {p : List MemPlace}
    (hv : Value.okWide Tryz.prog W .any base 24 v) (h : DataW.Trod enc Tryz.prog W 0 (fun _ => true) true 24 v d p) :
    ∃ q A c, v = qv q A c ∧ Rr W W.heap.size A c q.rs ∧ q.rs.length ≤ Rows.uptoBulk d ∧ (∀ x ∈ q.rs, x.1.size ≤ Rows.uptoBulk d ∧ x.2.2.size ≤ Rows.uptoBulk d) ∧ Qok q := by
  obtain ⟨cs, rfl, hsz⟩ := okWide_struct Tryz.underlying24 hv
  rw [cells_qu] at hsz
  obtain ⟨l⟩ := cs
  obtain ⟨fuel, hf⟩ := h
  match l, hsz with
  | [u0, u1, u2, u3, u4, u5], _ =>
    have hf' : DataW.trod enc Tryz.prog W 0 (fun _ => true) true fuel 24 [u0, u1, u2, u3, u4, u5] = some (d, p) := by simpa [Value.cells] using hf
    obtain ⟨ys, n', _, hy, _, hlen, hg⟩ := DataW.trod_struct Tryz.underlying24 hf'
    have hone := one_qu Tryz.underlying24
    have g0 := hg 0 _ rfl
    have g1 := hg 1 _ rfl
    have g2 := hg 2 _ rfl
    have g3 := hg 3 _ rfl
    have g4 := hg 4 _ rfl
    have g5 := hg 5 _ rfl
    obtain ⟨o0, k0⟩ := hone_of hone 0 _ rfl
    obtain ⟨o1, k1⟩ := hone_of hone 1 _ rfl
    obtain ⟨o2, k2⟩ := hone_of hone 2 _ rfl
    obtain ⟨o3, k3⟩ := hone_of hone 3 _ rfl
    obtain ⟨o4, k4⟩ := hone_of hone 4 _ rfl
    obtain ⟨o5, k5⟩ := hone_of hone 5 _ rfl
    rw [o0, k0] at g0
    rw [o1, k1] at g1
    rw [o2, k2] at g2
    rw [o3, k3] at g3
    rw [o4, k4] at g4
    rw [o5, k5] at g5
    simp only [List.drop_zero, List.take_succ_cons, List.take_zero, List.drop_succ_cons] at g0 g1 g2 g3 g4 g5
    match ys, hlen with
    | [y0, (e1, p1), y2, y3, y4, y5], _ =>
      obtain ⟨s0, e0, _, w0⟩ := DataW.trod_int Tryz.underlying3 g0
      obtain ⟨A, cap, rs, e1', hr, hl, hs⟩ := open_rls1 g1
      obtain ⟨s2, e2, _, w2⟩ := DataW.trod_int Tryz.underlying2 g2
      obtain ⟨s3, e3, _, w3⟩ := DataW.trod_int Tryz.underlying2 g3
      obtain ⟨s4, e4, _, w4⟩ := DataW.trod_int Tryz.underlying2 g4
      obtain ⟨s5, e5, _⟩ := DataW.trod_bool Tryz.underlying4 g5
      simp at e0 e1' e2 e3 e4 e5
      subst e0 e1' e2 e3 e4 e5
      have hb : Rows.uptoBulk e1 ≤ Rows.uptoBulk d := by
        simp only [Prod.mk.injEq] at hy
        rw [hy.1]
        simp only [List.map_cons, List.map_nil, Rows.uptoBulk, Rows.uptoBulkAll]
        omega
      have b0 := wf_i64 w0
      have b2 := wf_i64 w2
      have b3 := wf_i64 w3
      have b4 := wf_i64 w4
      refine ⟨⟨s0, rs, s2, s3, s4, s5⟩, A, cap, rfl, hr, Nat.le_trans hl hb, fun x hx => ⟨Nat.le_trans (hs x hx).1 hb, Nat.le_trans (hs x hx).2 hb⟩, ⟨b0.1, b0.2, b2.1, b2.2, b3.1, b3.2, b4.1, b4.2⟩⟩
/-- The witness's world: all that the row lists is laid. -/
noncomputable def laidWorldQ (os : Os) : World := World.laidAll Tryz.prog os Rows.askRunsUptoRow.laid
abbrev qArgs : Array Value := #[.agg #[.int .i64 0, .slice none 0 0, .int .i64 0, .int .i64 0, .int .i64 0, .bool false], .slice none 0 0]
theorem laid_worldQ_met (os : Os) : laidMet Tryz.prog Rows.askRunsUptoRow.laid ((laidWorldQ os).forCall (fun _ _ => 0) ⟨#[], qArgs, []⟩).memory :=
  laidMet_laidAll _ (by kernel_rfl) (by kernel_rfl)
theorem laid_worldQ_shaped (os : Os) : ((laidWorldQ os).forCall (fun _ _ => 0) ⟨#[], qArgs, []⟩).Shaped Tryz.prog :=
  World.shaped_of_ZipB (by kernel_rfl) (by kernel_rfl)
end Go.Proofs.YtcfbcidakddhfaaGreatDoor
namespace Go.Proofs.YtcfbcidakddhfaaGreatDoor
open Go.RowKit Go.BigFrame

/-- A query that the document read, in memory of the call's own, and why not. -/
def ParD (w : World) (p : Qr × Int) (e : Ending) (w' : World) : Prop :=
  ∃ A c, e = .returned (.tuple #[qv p.1 A c, .int .i64 p.2]) ∧ Rd w' w.heap.size (.slice A p.1.rs.length c) p.1.rs ∧ Below w.heap.size w w'
theorem pard_bad {w w' : World} {x : Int} (h : Below w.heap.size w w') : ParD w (Qr.zero, x) (.returned (.tuple #[qv Qr.zero none 0, .int .i64 x])) w' := ⟨none, 0, rfl, So.empty _ _ _ _ _, h⟩
theorem cutB_next {c : UInt8} {T : List UInt8} {k : Nat} (hk : k < T.length) (hc : T[k] ≠ c) : cutB c (T.drop k) = T[k] :: cutB c (T.drop (k + 1)) := by
  rw [List.drop_eq_getElem_cons hk]
  conv => lhs; unfold cutB
  rw [if_neg hc]
theorem cutB_end {c : UInt8} {T : List UInt8} {k : Nat} (h : T.length ≤ k ∨ ∃ hk : k < T.length, T[k] = c) : cutB c (T.drop k) = [] := by
  rcases h with h | ⟨hk, h⟩
  · rw [List.drop_eq_nil_of_le h]
    rfl
  · rw [List.drop_eq_getElem_cons hk, h]
    unfold cutB
    rw [if_pos rfl]
theorem cutB_pre (c : UInt8) (T : List UInt8) : T.take (cutB c T).length = cutB c T := by
  rcases cutB_at c T with ⟨_, r, h⟩ | ⟨_, h⟩
  · have h4 := congrArg (List.take (cutB c T).length) h
    rwa [List.take_left' rfl] at h4
  · rw [h, List.take_length]
theorem cutB_mem (c : UInt8) (T : List UInt8) : (cutB c T).length = T.length ↔ c ∉ T := by
  rcases cutB_at c T with ⟨h1, r, h⟩ | ⟨h1, h⟩
  · have h4 := congrArg List.length h
    rw [List.length_append, List.length_cons] at h4
    exact ⟨fun h9 => by omega, fun h9 => absurd h1 h9⟩
  · exact ⟨fun _ => h1, fun _ => by rw [h]⟩
/-- Which of the first j words a text is; -1: none. -/
def opZ (wd : List UInt8) : Nat → Int
  | 0 => -1
  | j + 1 => if wd = wordQ (j : Int) then (j : Int) else opZ wd j
theorem opZ_succ (wd : List UInt8) (j : Nat) : opZ wd (j + 1) = if wd = wordQ (j : Int) then (j : Int) else opZ wd j := rfl
theorem opZ_six (wd : List UInt8) : opZ wd 6 = (opA wd).getD (-1) := by
  unfold opA
  by_cases h0 : wd = wordQ 0
  · rw [if_pos h0, h0]; decide
  by_cases h1 : wd = wordQ 1
  · rw [if_neg h0, if_pos h1, h1]; decide
  by_cases h2 : wd = wordQ 2
  · rw [if_neg h0, if_neg h1, if_pos h2, h2]; decide
  by_cases h3 : wd = wordQ 3
  · rw [if_neg h0, if_neg h1, if_neg h2, if_pos h3, h3]; decide
  by_cases h4 : wd = wordQ 4
  · rw [if_neg h0, if_neg h1, if_neg h2, if_neg h3, if_pos h4, h4]; decide
  by_cases h5 : wd = wordQ 5
  · rw [if_neg h0, if_neg h1, if_neg h2, if_neg h3, if_neg h4, if_pos h5, h5]; decide
  · rw [if_neg h0, if_neg h1, if_neg h2, if_neg h3, if_neg h4, if_neg h5]
    unfold opZ
    rw [if_neg (by simpa using h5)]
    unfold opZ
    rw [if_neg (by simpa using h4)]
    unfold opZ
    rw [if_neg (by simpa using h3)]
    unfold opZ
    rw [if_neg (by simpa using h2)]
    unfold opZ
    rw [if_neg (by simpa using h1)]
    unfold opZ
    rw [if_neg (by simpa using h0)]
    rfl
theorem step_le {T : List UInt8} {x : Option Nat} (h : ∀ k, x = some k → k ≤ T.length) : ∀ k, (numStep T x).2 = some k → k ≤ T.length := by
  intro k hk
  cases x with
  | none => cases hk
  | some m =>
    unfold numStep at hk
    simp only at hk
    cases hn : numZ (T.drop m) with
    | none => rw [hn] at hk; cases hk
    | some p =>
      obtain ⟨v, u⟩ := p
      rw [hn] at hk
      simp only [Option.some.injEq] at hk
      obtain ⟨r, h1, _, h3⟩ := numZ_some hn
      have h4 := congrArg List.length h1
      obtain ⟨r2, h5⟩ := runB_pre r
      have h6 := congrArg List.length h5
      rw [List.length_drop, List.length_cons] at h4
      rw [List.length_append] at h6
      omega
theorem step_fit {T : List UInt8} {x : Option Nat} : -9223372036854775808 ≤ (numStep T x).1 ∧ (numStep T x).1 ≤ 9223372036854775807 := by
  cases x with
  | none => simp [numStep]
  | some m =>
    unfold numStep
    simp only
    cases hn : numZ (T.drop m) with
    | none => simp
    | some p =>
      obtain ⟨v, u⟩ := p
      obtain ⟨r, _, h2, _⟩ := numZ_some hn
      exact ⟨(numOf_some h2).2.1, (numOf_some h2).2.2.1⟩
/-- Numbers read one behind the other. -/
theorem steps_read (T : List UInt8) : ∀ (n : Nat) (x : Nat), readX numZ (n + 1) (T.drop x) = match (numStep T (some x)).2 with
    | none => none
    | some k => (readX numZ n (T.drop k)).map fun p => ((numStep T (some x)).1 :: p.1, p.2) := fun n x => by
  unfold numStep
  simp only
  cases hn : numZ (T.drop x) with
  | none =>
    unfold readX
    rw [hn]
  | some p =>
    obtain ⟨v, u⟩ := p
    simp only
    conv => lhs; unfold readX
    rw [hn]
    simp only
    rw [List.drop_drop]
    cases readX numZ n (T.drop (x + u)) with
    | none => rfl
    | some q => rfl
theorem read2 {T : List UInt8} {a0 : Nat} {v1 v2 : Int} {x1 x2 : Option Nat} (h1 : numStep T (some a0) = (v1, x1)) (h2 : numStep T x1 = (v2, x2)) : readX numZ 2 (T.drop a0) = x2.map fun k => ([v1, v2], T.drop k) := by
  rw [steps_read, h1]
  cases x1 with
  | none => cases h2; rfl
  | some k1 =>
    simp only
    rw [steps_read, h2]
    cases x2 with
    | none => rfl
    | some k2 => rfl
theorem read3 {T : List UInt8} {a0 : Nat} {v1 v2 v3 : Int} {x1 x2 x3 : Option Nat} (h1 : numStep T (some a0) = (v1, x1)) (h2 : numStep T x1 = (v2, x2)) (h3 : numStep T x2 = (v3, x3)) : readX numZ 3 (T.drop a0) = x3.map fun k => ([v1, v2, v3], T.drop k) := by
  rw [steps_read, h1]
  cases x1 with
  | none => cases h2; cases h3; rfl
  | some k1 =>
    simp only
    rw [read2 h2 h3]
    cases x3 with
    | none => rfl
    | some k3 => rfl
end Go.Proofs.YtcfbcidakddhfaaGreatDoor
