/- AskRuns' loops that write into an answer's own sets: what they leave as it was. -/
import Derived.Test.YtcfbcidakddhfaaGreatDoorPr46
import Derived.Test.YtcfbcidakddhfaaGreatDoorPr45
import Derived.Test.YtcfbcidakddhfaaGreatDoorPr48
import Derived.Test.YtcfbcidakddhfaaGreatDoorPr33
import Derived.Test.YtcfbcidakddhfaaGreatDoorPr16
import Derived.Deep.CutBlock
import Derived.Test.YtcfbcidakddhfaaGreatDoorPr47
import Derived.Test.YtcfbcidakddhfaaGreatDoorPr4
namespace Go.Proofs.YtcfbcidakddhfaaGreatDoor
open Go.RowKit Go.BigFrame

theorem wrapk {k : Nat} (h : k ≤ 1048576) : IntKind.i64.wrap ((k : Int)) = (k : Int) := by
  rw [IntKind.wrap_i64]; omega

theorem add_block (a : Addr) (n : Nat) : (a.add n).block = a.block := by
  unfold Addr.add
  split <;> rfl
theorem telld_ne {b i : Nat} {ad : Addr} {cap : Nat} {A1 a2 CA : Option Addr} {c1 d2 cc : Nat} {p : Pt} {l : List Pz} {cells : List Smp} {rows : List Rz} : ∀ j, Nat.beq j 10 = false → Vr.isAp (([.v (.pointer (some ⟨b, 0, none⟩)), .v (.slice A1 rows.length c1), .v (.slice (some ad) l.length cap), .v (.int .i64 i), .v (.pointer (some (ad.add (i * 8)))), .v (.pointer (some (ad.add (i * 8)))), .v (.slice a2 p.set.length d2), .v (.slice CA cells.length cc), .v (.agg #[.slice a2 p.set.length d2, .slice CA cells.length cc]), .li, .ap, .v (.pointer (some ⟨b, 0, none⟩)), .v undef] : List Vr).getD j (.v undef)) = false
  | 0, _ => rfl
  | 1, _ => rfl
  | 2, _ => rfl
  | 3, _ => rfl
  | 4, _ => rfl
  | 5, _ => rfl
  | 6, _ => rfl
  | 7, _ => rfl
  | 8, _ => rfl
  | 9, _ => rfl
  | 10, h => by cases h
  | 11, _ => rfl
  | 12, _ => rfl
  | _ + 13, _ => rfl
/-- What the document's Run gives. -/
def RRunP (q : Qr) (w : World) (KP : Nat) (lp : List Pt) (e : Ending) (w' : World) : Prop :=
  ∃ A1 A2 c1 c2 rs ns, e = .returned (.tuple #[.agg #[.slice A1 rs.length c1, .slice A2 ns.length c2], .int .i64 (runQ q lp).1]) ∧ rs.map Prod.fst = (runQ q lp).2.1 ∧ ns.map Prod.fst = (runQ q lp).2.2 ∧
    Rd9 w' w.heap.size KP (.slice A1 rs.length c1) rs ∧ Pd9 w' w.heap.size KP (.slice A2 ns.length c2) ns ∧ Below w.heap.size w w'
set_option maxRecDepth 100000 in
set_option maxHeartbeats 3200000 in
theorem rrun_any {q : Qr} {A : Option Addr} {c : Nat} (KP KQ : Nat) (B : Option Addr) (n cap : Nat) (l : List Pz) (w : World) (hln : l.length = n) (hp : Ps w KP B cap l) (hKP : KP ≤ w.heap.size)
    (hr : Rr w KQ A c q.rs) (hKQ : KQ ≤ w.heap.size) (hS : SmR q.rs) (hord : orderB (l.map Prod.fst) = true) (h2 : q.st ≤ 9223372036854775807) (hl : l.length ≤ 1048576) (hsm : ∀ x ∈ l, x.1.set.length ≤ 1048576 ∧ Sm x.1.set) (hok : ∀ x ∈ l, Pok x.1) :
    Calls Tryz.prog 9 #[qv q A c, .slice B n cap] w (RRunP q w KP (l.map Prod.fst)) := by
  subst hln
  have hle := hp.sr.le
  have hmax := hp.sr.max
  unfold maxLen at hmax
  have B0 : Below w.heap.size w ((w.alloc (.cells (qc q A c) 24)).alloc (.cells #[.slice none 0 0, .slice none 0 0] 42)) := by go_grown
  have HX : Hid (Rwo ((w.alloc (.cells (qc q A c) 24)).alloc (.cells #[.slice none 0 0, .slice none 0 0] 42)) w.heap.size (qc q A c) 24) := Lib.hid ((show Rwo (w.alloc (.cells (qc q A c) 24)) w.heap.size (qc q A c) 24 from ⟨heap_alloc_new w _⟩).below ((Below.refl _ _).alloc (Nat.le_refl _) _))
  have HR0 : Hid (Rwo ((w.alloc (.cells (qc q A c) 24)).alloc (.cells #[.slice none 0 0, .slice none 0 0] 42)) (w.heap.size + 1) #[.slice none 0 0, .slice none 0 0] 42) := Lib.hid ⟨by
    have := heap_alloc_new (w.alloc (.cells (qc q A c) 24)) (.cells #[.slice none 0 0, .slice none 0 0] 42)
    simpa using this⟩
  have HP := Lib.hid (hp.below (B0.mono hKP))
  have HRR := Lib.hid (hr.below (B0.mono hKQ))
  have hz : ((w.alloc (.cells (qc q A c) 24)).alloc (.cells #[.slice none 0 0, .slice none 0 0] 42)).heap.size = w.heap.size + 2 := by simp
  have HB0 := Lib.hid B0
  obtain ⟨W0, hW0⟩ : ∃ W0, W0 = (w.alloc (.cells (qc q A c) 24)).alloc (.cells #[.slice none 0 0, .slice none 0 0] 42) := ⟨_, rfl⟩
  rw [← hW0] at HX HR0 HP HRR hz HB0
  have HWW := Lib.hid hW0
  obtain ⟨K, hK⟩ : ∃ K, K = W0.heap.size := ⟨_, rfl⟩
  have hKP : KP ≤ K := by omega
  have hKQ : KQ ≤ K := by omega
  have HQ9 : Hid (∀ W, Below K W0 W → W.cell? ⟨w.heap.size, 0, none⟩ = some (.int .i64 q.op) ∧ W.cell? ⟨w.heap.size, 1, none⟩ = some (.slice A q.rs.length c) ∧ W.cell? ⟨w.heap.size, 2, none⟩ = some (.int .i64 q.fr) ∧ W.cell? ⟨w.heap.size, 3, none⟩ = some (.int .i64 q.to_) ∧ W.cell? ⟨w.heap.size, 4, none⟩ = some (.int .i64 q.st) ∧ W.cell? ⟨w.heap.size, 5, none⟩ = some (.bool q.nt)) := Lib.hid fun W hW => by
    have h : Rwo W w.heap.size (qc q A c) 24 := HX.out.below (hK ▸ hW)
    exact ⟨h.cell rfl, h.cell rfl, h.cell rfl, h.cell rfl, h.cell rfl, h.cell rfl⟩
  have HZ9 : Hid (∀ W, Below K W0 W → w.heap.size < W.heap.size) := Lib.hid fun W hW => by have := hW.size; omega
  have HRX : Hid (∀ W, Below K W0 W → Rwo W (w.heap.size + 1) #[.slice none 0 0, .slice none 0 0] 42) := Lib.hid fun W hW => HR0.out.below (hK ▸ hW)
  have HEND : Hid (∀ W, Below K W0 W → Below w.heap.size w (((W.setCell ⟨w.heap.size + 1, 0, none⟩ (.slice none 0 0)).setCell ⟨w.heap.size + 1, 1, none⟩ (.slice none 0 0)))) := Lib.hid fun W hW => ((HB0.out.trans (hW.mono (by omega))).setCell (p := ⟨w.heap.size + 1, 0, none⟩) (Nat.le_succ _) _).setCell (p := ⟨w.heap.size + 1, 1, none⟩) (Nat.le_succ _) _
  have HRI := Lib.hid (rRightQ_any (w := W0) (A := A) (c := c) (HRR.out) (by omega) hS h2)
  clear hp hr B0 hW0
  cases hri : rightQ q with
  | false =>
    rw [hri] at HRI
    have HT : Hid (runQ q (l.map Prod.fst) = (1, [], [])) := Lib.hid (if_pos (.inl hri))
    obtain ⟨q0, q1, q2, q3, q4, q5⟩ := HQ9.out W0 (Below.refl _ _)
    have qz := HZ9.out W0 (Below.refl _ _)
    clear hri
    go_enter Tryz.func9, Tryz.ntmps9
    go_upto_region 1 with fail
    rw [← HWW.out]
    go_wp2_with fail
    refine HRI.out.mono ?_
    rintro e w1 ⟨rfl, b1⟩
    have hrx := HRX.out w1 (hK ▸ b1)
    have r0 : w1.cell? ⟨w.heap.size + 1, 0, none⟩ = some (.slice none 0 0) := hrx.cell rfl
    have r1 : w1.cell? ⟨w.heap.size + 1, 1, none⟩ = some (.slice none 0 0) := hrx.cell rfl
    have rf := hrx.fr
    have rl := hrx.lt
    have HRZ := Lib.hid hrx
    have HB1 : Hid (Below K W0 w1) := Lib.hid (hK ▸ b1)
    clear hrx b1 q0 q1 q2 q3 q4 q5 qz
    go_wp2_with fail
    have s0 := (HRZ.out.set 0 (.slice none 0 0)).set 1 (.slice none 0 0)
    have t0 := s0.cell (i := 0) (v := .slice none 0 0) rfl
    have t1 := s0.cell (i := 1) (v := .slice none 0 0) rfl
    exact bodyPost_ret (v := .tuple #[.agg #[.slice none 0 0, .slice none 0 0], .int .i64 1]) (by simp [results, Tryz.results9, go_sem, t0, t1]) rfl ⟨none, none, 0, 0, [], [], by rw [HT.out]; rfl, by rw [HT.out]; rfl, by rw [HT.out]; rfl, Rd9.empty _ _ _, Pd9.empty _ _ _, HEND.out w1 HB1.out⟩
  | true =>
  rw [hri] at HRI
  by_cases hbig : 65536 < l.length
  · have HT : Hid (runQ q (l.map Prod.fst) = (1, [], [])) := Lib.hid (if_pos (.inr (by rw [List.length_map]; exact hbig)))
    obtain ⟨q0, q1, q2, q3, q4, q5⟩ := HQ9.out W0 (Below.refl _ _)
    have qz := HZ9.out W0 (Below.refl _ _)
    have hbg : (65536 : Int) < l.length := by omega
    clear hri
    go_enter Tryz.func9, Tryz.ntmps9
    go_upto_region 1 with fail
    rw [← HWW.out]
    go_wp2_with fail
    refine HRI.out.mono ?_
    rintro e w1 ⟨rfl, b1⟩
    have hrx := HRX.out w1 (hK ▸ b1)
    have r0 : w1.cell? ⟨w.heap.size + 1, 0, none⟩ = some (.slice none 0 0) := hrx.cell rfl
    have r1 : w1.cell? ⟨w.heap.size + 1, 1, none⟩ = some (.slice none 0 0) := hrx.cell rfl
    have rf := hrx.fr
    have rl := hrx.lt
    have HRZ := Lib.hid hrx
    have HB1 : Hid (Below K W0 w1) := Lib.hid (hK ▸ b1)
    clear hrx b1 q0 q1 q2 q3 q4 q5 qz
    go_wp2_with fail
    have s0 := (HRZ.out.set 0 (.slice none 0 0)).set 1 (.slice none 0 0)
    have t0 := s0.cell (i := 0) (v := .slice none 0 0) rfl
    have t1 := s0.cell (i := 1) (v := .slice none 0 0) rfl
    exact bodyPost_ret (v := .tuple #[.agg #[.slice none 0 0, .slice none 0 0], .int .i64 1]) (by simp [results, Tryz.results9, go_sem, t0, t1]) rfl ⟨none, none, 0, 0, [], [], by rw [HT.out]; rfl, by rw [HT.out]; rfl, by rw [HT.out]; rfl, Rd9.empty _ _ _, Pd9.empty _ _ _, HEND.out w1 HB1.out⟩
  · have HTE : Hid (runQ q (l.map Prod.fst) = runGo q l.length (l.map Prod.fst) [] []) := Lib.hid (by
      unfold runQ
      rw [if_neg (by rw [List.length_map, hri]; rintro (h | h); (· cases h); exact hbig h), List.length_map])
    obtain ⟨res, hres⟩ : ∃ res, res = runGo q l.length (l.map Prod.fst) [] [] := ⟨_, rfl⟩
    have HRES := Lib.hid hres
    rw [← hres] at HTE
    obtain ⟨q0, q1, q2, q3, q4, q5⟩ := HQ9.out W0 (Below.refl _ _)
    have qz := HZ9.out W0 (Below.refl _ _)
    have hbg : ¬ (65536 : Int) < l.length := by omega
    have HSM := Lib.hid hsm
    have HOK := Lib.hid hok
    have HSR := Lib.hid hS
    clear hri hres hsm hok hS
    go_enter Tryz.func9, Tryz.ntmps9
    go_upto_region 1 with fail
    rw [← HWW.out]
    go_wp2_with fail
    refine HRI.out.mono ?_
    rintro e w1 ⟨rfl, b1⟩
    have HB1 : Hid (Below K W0 w1) := Lib.hid (hK ▸ b1)
    clear b1 q0 q1 q2 q3 q4 q5 qz
    have hbK : K ≤ w1.heap.size := by have := HB1.out.size; omega
    have HBA : Hid (Below K W0 (w1.alloc (.cells #[.slice none 0 0, .slice none 0 0] 42))) := Lib.hid (HB1.out.alloc hbK _)
    have HA0 : Hid (Ad9 (w1.alloc (.cells #[.slice none 0 0, .slice none 0 0] 42)) K KP w1.heap.size none none 0 0 [] []) := Lib.hid ⟨⟨heap_alloc_new w1 _⟩, Rd9.empty _ _ _, Pd9.empty _ _ _⟩
    have HPA := Lib.hid (HP.out.below (HBA.out.mono hKP))
    obtain ⟨b, hb⟩ : ∃ b, b = w1.heap.size := ⟨_, rfl⟩
    obtain ⟨W2, hW2⟩ : ∃ W2, W2 = w1.alloc (.cells #[.slice none 0 0, .slice none 0 0] 42) := ⟨_, rfl⟩
    have HBB := Lib.hid hb
    rw [← hW2, ← hb] at HA0
    rw [← hW2] at HBA HPA
    have HW2 := Lib.hid hW2
    clear hb hW2
    go_wp2_with fail
    rw [← HBB.out, ← HW2.out]
    rw [← HBB.out] at hbK
    clear HW2 HBB HB1
    go_loopw [7, 8, 9, 10, 12, 13] (fun v7 v8 v9 v10 v12 v13 wr => ∃ (i : Nat) (rows : List Rz) (notes : List Pz) (A1 A2 : Option Addr) (c1 c2 : Nat), v7 = .int .i64 i ∧ i ≤ l.length ∧ Ad9 wr K KP b A1 A2 c1 c2 rows notes ∧ Hid (qdocGo q (l.map Prod.fst) (l.length - i) i (rows.map Prod.fst) (notes.map Prod.fst) = res) ∧ Below K W0 wr ∧ rows.length ≤ i ∧ notes.length ≤ i * 65536) (fun v7 _ _ _ _ _ _ => l.length - (intOf v7).toNat)
    case atStart => exact ⟨0, [], [], none, none, 0, 0, rfl, Nat.zero_le _, HA0.out, Lib.hid (by rw [HRES.out]; exact qdoc_run q (l.map Prod.fst) l.length 0 [] [] (by rw [List.length_map]; omega) (.inl (by simp [headB]))), HBA.out, by simp, by simp⟩
    case round =>
      obtain ⟨i, rows, notes, A1, A2, c1, c2, rfl, hi, han, HR, hbl, hrl, hnl⟩ := hrel
      rename World => wr
      have HBL := Lib.hid hbl
      have HAN := Lib.hid han
      have HPW := Lib.hid (HP.out.below (hbl.mono hKP))
      obtain ⟨q0, q1, q2, q3, q4, q5⟩ := HQ9.out wr hbl
      have qz := HZ9.out wr hbl
      have hKr : K ≤ wr.heap.size := by have := hbl.size; omega
      clear hbl han
      by_cases hlt : i < l.length
      rotate_left
      · have hil : i = l.length := by omega
        subst hil
        have HE9 : Hid (res = (0, rows.map Prod.fst, notes.map Prod.fst)) := Lib.hid (by rw [← HR.out, Nat.sub_self]; rfl)
        have hrx := HRX.out wr HBL.out
        have r0 : wr.cell? ⟨w.heap.size + 1, 0, none⟩ = some (.slice none 0 0) := hrx.cell rfl
        have r1 : wr.cell? ⟨w.heap.size + 1, 1, none⟩ = some (.slice none 0 0) := hrx.cell rfl
        have rf := hrx.fr
        have rl := hrx.lt
        have a0 : wr.cell? ⟨b, 0, none⟩ = some (.slice A1 rows.length c1) := HAN.out.bx.cell rfl
        have a1 : wr.cell? ⟨b, 1, none⟩ = some (.slice A2 notes.length c2) := HAN.out.bx.cell rfl
        have al := HAN.out.bx.lt
        have HRZ := Lib.hid hrx
        clear hrx
        go_wp2_with fail
        have s0 := (HRZ.out.set 0 (.slice A1 rows.length c1)).set 1 (.slice A2 notes.length c2)
        have t0 := s0.cell (i := 0) (v := .slice A1 rows.length c1) rfl
        have t1 := s0.cell (i := 1) (v := .slice A2 notes.length c2) rfl
        exact bodyPost_ret (v := .tuple #[.agg #[.slice A1 rows.length c1, .slice A2 notes.length c2], .int .i64 0]) (by simp [results, Tryz.results9, go_sem, t0, t1]) rfl ⟨A1, A2, c1, c2, rows, notes, by rw [HTE.out, HE9.out], by rw [HTE.out, HE9.out], by rw [HTE.out, HE9.out],
          ((HAN.out.rg.set HRZ.out (by omega) 0 _).set (HRZ.out.set 0 _) (by omega) 1 _).more (by omega), ((HAN.out.pw.set HRZ.out (by omega) 0 _).set (HRZ.out.set 0 _) (by omega) 1 _).more (by omega), ((HB0.out.trans (HBL.out.mono (by omega))).setCell (p := ⟨w.heap.size + 1, 0, none⟩) (Nat.le_succ _) _).setCell (p := ⟨w.heap.size + 1, 1, none⟩) (Nat.le_succ _) _⟩
      obtain ⟨f, hf⟩ : ∃ f, l.length - i = f + 1 := ⟨l.length - i - 1, by omega⟩
      have hf2 : l.length - (i + 1) = f := by omega
      have HRN := HR.out
      rw [hf, qdocGo_succ] at HRN
      obtain ⟨ad, hA, _, gd0, _⟩ := ps_cells HPW.out.sr hlt
      subst hA
      have hst := HPW.out.st l[i] (List.getElem_mem hlt)
      have hsm2 := (HSM.out l[i] (List.getElem_mem hlt)).2
      have hgd : (l.map Prod.fst).getD i default = l[i].1 := getD_fst hlt
      rw [hgd] at HRN
      obtain ⟨x, hx⟩ : ∃ x, x = l[i] := ⟨_, rfl⟩
      rw [← hx] at gd0 hst hsm2 HRN
      obtain ⟨p, a2, d2⟩ := x
      simp only at gd0 hst hsm2 HRN
      have HXE := Lib.hid hx
      obtain ⟨ab, hab⟩ : ∃ ab, ab = allB p.set q.rs := ⟨_, rfl⟩
      obtain ⟨skb, hskb⟩ : ∃ skb, skb = (headB (l.map Prod.fst) i || !ab) := ⟨_, rfl⟩
      have HAB := Lib.hid hab
      have HAQ : Hid (∀ wx, Below wr.heap.size wr wx → Calls Tryz.prog 24 #[.slice A q.rs.length c, .slice a2 p.set.length d2] wx fun e w' => e = .returned (.bool ab) ∧ Below wx.heap.size wx w') := Lib.hid fun wx h => by
        rw [hab]
        exact rAll_any K A a2 q.rs.length c p.set.length d2 q.rs p.set wx rfl rfl ((HRR.out.below ((HBL.out.trans (h.mono hKr)).mono hKQ)).more hKQ) ((hst.below (h.mono (Nat.le_trans hKP hKr))).more hKP) (Nat.le_trans hKr h.size) hsm2 HSR.out
      have HST := Lib.hid hst
      have HSKB := Lib.hid hskb
      clear hab hst hsm2 hgd hx
      go_upto_region 7 with fail
      go_cut [55] from 29 to 54 (fun v wx => v = .bool skb ∧ Below wr.heap.size wr wx)
      case first =>
        rcases Nat.eq_zero_or_pos i with h0 | h0
        · subst h0
          have HSB : Hid (skb = !ab) := Lib.hid (by rw [hskb]; simp [headB])
          have x2 : wr.cell? ad = some (.slice a2 p.set.length d2) := by rw [Nat.zero_mul, el_add_zero] at gd0; exact gd0
          have x1 := q1
          have hl0 : (0 : Int) < l.length := by omega
          clear hskb HSKB HRN gd0
          apply region_V (fun (pv : Value) u (_ : World) => u = pv) (fun wx => Below wr.heap.size wr wx) [(.int .i64 0), (.bool false), (.bool false), undef, undef, undef, undef, undef, undef, undef, undef, undef, undef, undef, undef, (.bool false), (.bool false), (.pointer (some ⟨w.heap.size, 1, none⟩)), (.slice A q.rs.length c), (.slice (some ad) l.length cap), (.int .i64 0), (.pointer (some ad)), (.pointer (some ad)), (.slice a2 p.set.length d2), (.bool ab), (.bool (!ab)), (.bool (!ab))] (undef)
          case mono => exact fun p v w0 w1 h hb => h
          case hm => kernel_rfl
          case hf => kernel_rfl
          case hQ => exact (by intro c x y w e h; exact And.intro (e.symm.trans (And.left h)) (And.right h))
          case hF => intro vs; simp only [putAll, Act.put, List.setIfInBounds_toArray, List.set_cons_zero, List.set_cons_succ, Nat.reduceAdd]; rfl
          case h0 => exact ⟨rfl, rfl, rfl, Nat.le_refl _, fun _ _ => rfl⟩
          case hstep =>
            repeat' (first | exact AllOps.nil | apply AllOps.cons)
            · intro vs wx hG hd K hK
              replace hK : ∀ (uu : Value) (w' : World), Below wx.heap.size wx w' → ((fun wx => Below wr.heap.size wr wx)) w' → (fun (pv : Value) u (_ : World) => u = pv) ((.int .i64 0)) uu w' → K _ w' := hK
              simp only [Act.put, List.setIfInBounds_toArray, List.set_cons_zero, List.set_cons_succ] at hK ⊢
              have HK := Lib.hid hK
              have HG := Lib.hid hG
              clear hK hd
              clear hG
              go_simp
              exact HK.out _ _ (Below.refl _ _) HG.out rfl
            · intro vs wx hG hd K hK
              have e0 : vs 0 = .int .i64 0 := hd.get (j := 0) (by simp [depsOf, Region.binds])
              replace hK : ∀ (uu : Value) (w' : World), Below wx.heap.size wx w' → ((fun wx => Below wr.heap.size wr wx)) w' → (fun (pv : Value) u (_ : World) => u = pv) ((.bool false)) uu w' → K _ w' := hK
              simp only [Act.put, List.setIfInBounds_toArray, List.set_cons_zero, List.set_cons_succ, e0] at hK ⊢
              have HK := Lib.hid hK
              have HG := Lib.hid hG
              clear hK hd e0
              clear hG
              go_simp
              exact HK.out _ _ (Below.refl _ _) HG.out rfl
            · intro vs wx hG hd K hK
              have e1 : vs 1 = .bool false := hd.get (j := 1) (by simp [depsOf, Region.binds])
              replace hK : ∀ (uu : Value) (w' : World), Below wx.heap.size wx w' → ((fun wx => Below wr.heap.size wr wx)) w' → (fun (pv : Value) u (_ : World) => u = pv) ((.bool false)) uu w' → K _ w' := hK
              simp only [Act.put, List.setIfInBounds_toArray, List.set_cons_zero, List.set_cons_succ, e1] at hK ⊢
              have HK := Lib.hid hK
              have HG := Lib.hid hG
              clear hK hd e1
              clear hG
              go_simp
              exact HK.out _ _ (Below.refl _ _) HG.out rfl
            · intro vs wx hG hd K hK
              have e2 : vs 2 = .bool false := hd.get (j := 2) (by simp [depsOf, Region.binds])
              replace hK : ∀ (uu : Value) (w' : World), Below wx.heap.size wx w' → ((fun wx => Below wr.heap.size wr wx)) w' → (fun (pv : Value) u (_ : World) => u = pv) (undef) uu w' → K _ w' := hK
              simp only [Act.put, List.setIfInBounds_toArray, List.set_cons_zero, List.set_cons_succ, e2] at hK ⊢
              have HK := Lib.hid hK
              have HG := Lib.hid hG
              clear hK hd e2
              clear hG
              go_simp
              exact HK.out _ _ (Below.refl _ _) HG.out rfl
            · intro vs wx hG hd K hK
              have e2 : vs 2 = .bool false := hd.get (j := 2) (by simp [depsOf, Region.binds])
              replace hK : ∀ (uu : Value) (w' : World), Below wx.heap.size wx w' → ((fun wx => Below wr.heap.size wr wx)) w' → (fun (pv : Value) u (_ : World) => u = pv) (undef) uu w' → K _ w' := hK
              simp only [Act.put, List.setIfInBounds_toArray, List.set_cons_zero, List.set_cons_succ, e2] at hK ⊢
              have HK := Lib.hid hK
              have HG := Lib.hid hG
              clear hK hd e2
              clear hG
              go_simp
              exact HK.out _ _ (Below.refl _ _) HG.out rfl
            · intro vs wx hG hd K hK
              have e2 : vs 2 = .bool false := hd.get (j := 2) (by simp [depsOf, Region.binds])
              replace hK : ∀ (uu : Value) (w' : World), Below wx.heap.size wx w' → ((fun wx => Below wr.heap.size wr wx)) w' → (fun (pv : Value) u (_ : World) => u = pv) (undef) uu w' → K _ w' := hK
              simp only [Act.put, List.setIfInBounds_toArray, List.set_cons_zero, List.set_cons_succ, e2] at hK ⊢
              have HK := Lib.hid hK
              have HG := Lib.hid hG
              clear hK hd e2
              clear hG
              go_simp
              exact HK.out _ _ (Below.refl _ _) HG.out rfl
            · intro vs wx hG hd K hK
              have e2 : vs 2 = .bool false := hd.get (j := 2) (by simp [depsOf, Region.binds])
              replace hK : ∀ (uu : Value) (w' : World), Below wx.heap.size wx w' → ((fun wx => Below wr.heap.size wr wx)) w' → (fun (pv : Value) u (_ : World) => u = pv) (undef) uu w' → K _ w' := hK
              simp only [Act.put, List.setIfInBounds_toArray, List.set_cons_zero, List.set_cons_succ, e2] at hK ⊢
              have HK := Lib.hid hK
              have HG := Lib.hid hG
              clear hK hd e2
              clear hG
              go_simp
              exact HK.out _ _ (Below.refl _ _) HG.out rfl
            · intro vs wx hG hd K hK
              have e2 : vs 2 = .bool false := hd.get (j := 2) (by simp [depsOf, Region.binds])
              replace hK : ∀ (uu : Value) (w' : World), Below wx.heap.size wx w' → ((fun wx => Below wr.heap.size wr wx)) w' → (fun (pv : Value) u (_ : World) => u = pv) (undef) uu w' → K _ w' := hK
              simp only [Act.put, List.setIfInBounds_toArray, List.set_cons_zero, List.set_cons_succ, e2] at hK ⊢
              have HK := Lib.hid hK
              have HG := Lib.hid hG
              clear hK hd e2
              clear hG
              go_simp
              exact HK.out _ _ (Below.refl _ _) HG.out rfl
            · intro vs wx hG hd K hK
              have e2 : vs 2 = .bool false := hd.get (j := 2) (by simp [depsOf, Region.binds])
              replace hK : ∀ (uu : Value) (w' : World), Below wx.heap.size wx w' → ((fun wx => Below wr.heap.size wr wx)) w' → (fun (pv : Value) u (_ : World) => u = pv) (undef) uu w' → K _ w' := hK
              simp only [Act.put, List.setIfInBounds_toArray, List.set_cons_zero, List.set_cons_succ, e2] at hK ⊢
              have HK := Lib.hid hK
              have HG := Lib.hid hG
              clear hK hd e2
              clear hG
              go_simp
              exact HK.out _ _ (Below.refl _ _) HG.out rfl
            · intro vs wx hG hd K hK
              have e2 : vs 2 = .bool false := hd.get (j := 2) (by simp [depsOf, Region.binds])
              replace hK : ∀ (uu : Value) (w' : World), Below wx.heap.size wx w' → ((fun wx => Below wr.heap.size wr wx)) w' → (fun (pv : Value) u (_ : World) => u = pv) (undef) uu w' → K _ w' := hK
              simp only [Act.put, List.setIfInBounds_toArray, List.set_cons_zero, List.set_cons_succ, e2] at hK ⊢
              have HK := Lib.hid hK
              have HG := Lib.hid hG
              clear hK hd e2
              clear hG
              go_simp
              exact HK.out _ _ (Below.refl _ _) HG.out rfl
            · intro vs wx hG hd K hK
              have e2 : vs 2 = .bool false := hd.get (j := 2) (by simp [depsOf, Region.binds])
              replace hK : ∀ (uu : Value) (w' : World), Below wx.heap.size wx w' → ((fun wx => Below wr.heap.size wr wx)) w' → (fun (pv : Value) u (_ : World) => u = pv) (undef) uu w' → K _ w' := hK
              simp only [Act.put, List.setIfInBounds_toArray, List.set_cons_zero, List.set_cons_succ, e2] at hK ⊢
              have HK := Lib.hid hK
              have HG := Lib.hid hG
              clear hK hd e2
              clear hG
              go_simp
              exact HK.out _ _ (Below.refl _ _) HG.out rfl
            · intro vs wx hG hd K hK
              have e2 : vs 2 = .bool false := hd.get (j := 2) (by simp [depsOf, Region.binds])
              replace hK : ∀ (uu : Value) (w' : World), Below wx.heap.size wx w' → ((fun wx => Below wr.heap.size wr wx)) w' → (fun (pv : Value) u (_ : World) => u = pv) (undef) uu w' → K _ w' := hK
              simp only [Act.put, List.setIfInBounds_toArray, List.set_cons_zero, List.set_cons_succ, e2] at hK ⊢
              have HK := Lib.hid hK
              have HG := Lib.hid hG
              clear hK hd e2
              clear hG
              go_simp
              exact HK.out _ _ (Below.refl _ _) HG.out rfl
            · intro vs wx hG hd K hK
              have e2 : vs 2 = .bool false := hd.get (j := 2) (by simp [depsOf, Region.binds])
              replace hK : ∀ (uu : Value) (w' : World), Below wx.heap.size wx w' → ((fun wx => Below wr.heap.size wr wx)) w' → (fun (pv : Value) u (_ : World) => u = pv) (undef) uu w' → K _ w' := hK
              simp only [Act.put, List.setIfInBounds_toArray, List.set_cons_zero, List.set_cons_succ, e2] at hK ⊢
              have HK := Lib.hid hK
              have HG := Lib.hid hG
              clear hK hd e2
              clear hG
              go_simp
              exact HK.out _ _ (Below.refl _ _) HG.out rfl
            · intro vs wx hG hd K hK
              have e2 : vs 2 = .bool false := hd.get (j := 2) (by simp [depsOf, Region.binds])
              replace hK : ∀ (uu : Value) (w' : World), Below wx.heap.size wx w' → ((fun wx => Below wr.heap.size wr wx)) w' → (fun (pv : Value) u (_ : World) => u = pv) (undef) uu w' → K _ w' := hK
              simp only [Act.put, List.setIfInBounds_toArray, List.set_cons_zero, List.set_cons_succ, e2] at hK ⊢
              have HK := Lib.hid hK
              have HG := Lib.hid hG
              clear hK hd e2
              clear hG
              go_simp
              exact HK.out _ _ (Below.refl _ _) HG.out rfl
            · intro vs wx hG hd K hK
              have e2 : vs 2 = .bool false := hd.get (j := 2) (by simp [depsOf, Region.binds])
              replace hK : ∀ (uu : Value) (w' : World), Below wx.heap.size wx w' → ((fun wx => Below wr.heap.size wr wx)) w' → (fun (pv : Value) u (_ : World) => u = pv) (undef) uu w' → K _ w' := hK
              simp only [Act.put, List.setIfInBounds_toArray, List.set_cons_zero, List.set_cons_succ, e2] at hK ⊢
              have HK := Lib.hid hK
              have HG := Lib.hid hG
              clear hK hd e2
              clear hG
              go_simp
              exact HK.out _ _ (Below.refl _ _) HG.out rfl
            · intro vs wx hG hd K hK
              have e2 : vs 2 = .bool false := hd.get (j := 2) (by simp [depsOf, Region.binds])
              have e14 : vs 14 = undef := hd.get (j := 14) (by simp [depsOf, Region.binds])
              replace hK : ∀ (uu : Value) (w' : World), Below wx.heap.size wx w' → ((fun wx => Below wr.heap.size wr wx)) w' → (fun (pv : Value) u (_ : World) => u = pv) ((.bool false)) uu w' → K _ w' := hK
              simp only [Act.put, List.setIfInBounds_toArray, List.set_cons_zero, List.set_cons_succ, e2, e14] at hK ⊢
              have HK := Lib.hid hK
              have HG := Lib.hid hG
              clear hK hd e2 e14
              clear hG
              go_simp
              exact HK.out _ _ (Below.refl _ _) HG.out rfl
            · intro vs wx hG hd K hK
              have e15 : vs 15 = .bool false := hd.get (j := 15) (by simp [depsOf, Region.binds])
              replace hK : ∀ (uu : Value) (w' : World), Below wx.heap.size wx w' → ((fun wx => Below wr.heap.size wr wx)) w' → (fun (pv : Value) u (_ : World) => u = pv) ((.bool false)) uu w' → K _ w' := hK
              simp only [Act.put, List.setIfInBounds_toArray, List.set_cons_zero, List.set_cons_succ, e15] at hK ⊢
              have HK := Lib.hid hK
              have HG := Lib.hid hG
              clear hK hd e15
              clear hG
              go_simp
              exact HK.out _ _ (Below.refl _ _) HG.out rfl
            · intro vs wx hG hd K hK
              have e16 : vs 16 = .bool false := hd.get (j := 16) (by simp [depsOf, Region.binds])
              replace hK : ∀ (uu : Value) (w' : World), Below wx.heap.size wx w' → ((fun wx => Below wr.heap.size wr wx)) w' → (fun (pv : Value) u (_ : World) => u = pv) ((.pointer (some ⟨w.heap.size, 1, none⟩))) uu w' → K _ w' := hK
              simp only [Act.put, List.setIfInBounds_toArray, List.set_cons_zero, List.set_cons_succ, e16] at hK ⊢
              have HK := Lib.hid hK
              have HG := Lib.hid hG
              clear hK hd e16
              clear hG
              go_simp
              exact HK.out _ _ (Below.refl _ _) HG.out rfl
            · intro vs wx hG hd K hK
              have e17 : vs 17 = .pointer (some ⟨w.heap.size, 1, none⟩) := hd.get (j := 17) (by simp [depsOf, Region.binds])
              have e16 : vs 16 = .bool false := hd.get (j := 16) (by simp [depsOf, Region.binds])
              replace hK : ∀ (uu : Value) (w' : World), Below wx.heap.size wx w' → ((fun wx => Below wr.heap.size wr wx)) w' → (fun (pv : Value) u (_ : World) => u = pv) ((.slice A q.rs.length c)) uu w' → K _ w' := hK
              simp only [Act.put, List.setIfInBounds_toArray, List.set_cons_zero, List.set_cons_succ, e17, e16] at hK ⊢
              have HK := Lib.hid hK
              have HG := Lib.hid hG
              clear hK hd e17 e16
              have hb1 := HG.out
              have y1 := kept hb1 x1
              have y2 := kept hb1 x2
              have yz := hb1.size
              clear hb1 hG
              go_simp
              exact HK.out _ _ (Below.refl _ _) HG.out rfl
            · intro vs wx hG hd K hK
              have e16 : vs 16 = .bool false := hd.get (j := 16) (by simp [depsOf, Region.binds])
              replace hK : ∀ (uu : Value) (w' : World), Below wx.heap.size wx w' → ((fun wx => Below wr.heap.size wr wx)) w' → (fun (pv : Value) u (_ : World) => u = pv) ((.slice (some ad) l.length cap)) uu w' → K _ w' := hK
              simp only [Act.put, List.setIfInBounds_toArray, List.set_cons_zero, List.set_cons_succ, e16] at hK ⊢
              have HK := Lib.hid hK
              have HG := Lib.hid hG
              clear hK hd e16
              clear hG
              go_simp
              exact HK.out _ _ (Below.refl _ _) HG.out rfl
            · intro vs wx hG hd K hK
              have e16 : vs 16 = .bool false := hd.get (j := 16) (by simp [depsOf, Region.binds])
              replace hK : ∀ (uu : Value) (w' : World), Below wx.heap.size wx w' → ((fun wx => Below wr.heap.size wr wx)) w' → (fun (pv : Value) u (_ : World) => u = pv) ((.int .i64 0)) uu w' → K _ w' := hK
              simp only [Act.put, List.setIfInBounds_toArray, List.set_cons_zero, List.set_cons_succ, e16] at hK ⊢
              have HK := Lib.hid hK
              have HG := Lib.hid hG
              clear hK hd e16
              clear hG
              go_simp
              exact HK.out _ _ (Below.refl _ _) HG.out rfl
            · intro vs wx hG hd K hK
              have e19 : vs 19 = .slice (some ad) l.length cap := hd.get (j := 19) (by simp [depsOf, Region.binds])
              have e20 : vs 20 = .int .i64 0 := hd.get (j := 20) (by simp [depsOf, Region.binds])
              have e16 : vs 16 = .bool false := hd.get (j := 16) (by simp [depsOf, Region.binds])
              replace hK : ∀ (uu : Value) (w' : World), Below wx.heap.size wx w' → ((fun wx => Below wr.heap.size wr wx)) w' → (fun (pv : Value) u (_ : World) => u = pv) ((.pointer (some ad))) uu w' → K _ w' := hK
              simp only [Act.put, List.setIfInBounds_toArray, List.set_cons_zero, List.set_cons_succ, e19, e20, e16] at hK ⊢
              have HK := Lib.hid hK
              have HG := Lib.hid hG
              clear hK hd e19 e20 e16
              clear hG
              go_simp
              exact HK.out _ _ (Below.refl _ _) HG.out rfl
            · intro vs wx hG hd K hK
              have e21 : vs 21 = .pointer (some ad) := hd.get (j := 21) (by simp [depsOf, Region.binds])
              have e16 : vs 16 = .bool false := hd.get (j := 16) (by simp [depsOf, Region.binds])
              replace hK : ∀ (uu : Value) (w' : World), Below wx.heap.size wx w' → ((fun wx => Below wr.heap.size wr wx)) w' → (fun (pv : Value) u (_ : World) => u = pv) ((.pointer (some ad))) uu w' → K _ w' := hK
              simp only [Act.put, List.setIfInBounds_toArray, List.set_cons_zero, List.set_cons_succ, e21, e16] at hK ⊢
              have HK := Lib.hid hK
              have HG := Lib.hid hG
              clear hK hd e21 e16
              clear hG
              go_simp
              exact HK.out _ _ (Below.refl _ _) HG.out rfl
            · intro vs wx hG hd K hK
              have e22 : vs 22 = .pointer (some ad) := hd.get (j := 22) (by simp [depsOf, Region.binds])
              have e16 : vs 16 = .bool false := hd.get (j := 16) (by simp [depsOf, Region.binds])
              replace hK : ∀ (uu : Value) (w' : World), Below wx.heap.size wx w' → ((fun wx => Below wr.heap.size wr wx)) w' → (fun (pv : Value) u (_ : World) => u = pv) ((.slice a2 p.set.length d2)) uu w' → K _ w' := hK
              simp only [Act.put, List.setIfInBounds_toArray, List.set_cons_zero, List.set_cons_succ, e22, e16] at hK ⊢
              have HK := Lib.hid hK
              have HG := Lib.hid hG
              clear hK hd e22 e16
              have hb1 := HG.out
              have y1 := kept hb1 x1
              have y2 := kept hb1 x2
              have yz := hb1.size
              clear hb1 hG
              go_simp
              exact HK.out _ _ (Below.refl _ _) HG.out rfl
            · intro vs wx hG hd K hK
              have e18 : vs 18 = .slice A q.rs.length c := hd.get (j := 18) (by simp [depsOf, Region.binds])
              have e23 : vs 23 = .slice a2 p.set.length d2 := hd.get (j := 23) (by simp [depsOf, Region.binds])
              have e16 : vs 16 = .bool false := hd.get (j := 16) (by simp [depsOf, Region.binds])
              replace hK : ∀ (uu : Value) (w' : World), Below wx.heap.size wx w' → ((fun wx => Below wr.heap.size wr wx)) w' → (fun (pv : Value) u (_ : World) => u = pv) ((.bool ab)) uu w' → K _ w' := hK
              simp only [Act.put, List.setIfInBounds_toArray, List.set_cons_zero, List.set_cons_succ, e18, e23, e16] at hK ⊢
              have HK := Lib.hid hK
              have HG := Lib.hid hG
              clear hK hd e18 e23 e16
              have hb1 := HG.out
              clear hG
              go_simp
              go_at_call 24
              refine (HAQ.out wx hb1).mono ?_
              rintro en w9 ⟨rfl, hb⟩
              exact HK.out _ _ hb (HG.out.trans (hb.mono hb1.size)) rfl
            · intro vs wx hG hd K hK
              have e24 : vs 24 = .bool ab := hd.get (j := 24) (by simp [depsOf, Region.binds])
              have e16 : vs 16 = .bool false := hd.get (j := 16) (by simp [depsOf, Region.binds])
              replace hK : ∀ (uu : Value) (w' : World), Below wx.heap.size wx w' → ((fun wx => Below wr.heap.size wr wx)) w' → (fun (pv : Value) u (_ : World) => u = pv) ((.bool (!ab))) uu w' → K _ w' := hK
              simp only [Act.put, List.setIfInBounds_toArray, List.set_cons_zero, List.set_cons_succ, e24, e16] at hK ⊢
              have HK := Lib.hid hK
              have HG := Lib.hid hG
              clear hK hd e24 e16
              clear hG
              go_simp
              exact HK.out _ _ (Below.refl _ _) HG.out rfl
            · intro vs wx hG hd K hK
              have e16 : vs 16 = .bool false := hd.get (j := 16) (by simp [depsOf, Region.binds])
              have e25 : vs 25 = .bool (!ab) := hd.get (j := 25) (by simp [depsOf, Region.binds])
              replace hK : ∀ (uu : Value) (w' : World), Below wx.heap.size wx w' → ((fun wx => Below wr.heap.size wr wx)) w' → (fun (pv : Value) u (_ : World) => u = pv) ((.bool (!ab))) uu w' → K _ w' := hK
              simp only [Act.put, List.setIfInBounds_toArray, List.set_cons_zero, List.set_cons_succ, e16, e25] at hK ⊢
              have HK := Lib.hid hK
              have HG := Lib.hid hG
              clear hK hd e16 e25
              clear hG
              go_simp
              exact HK.out _ _ (Below.refl _ _) HG.out rfl
          case hend =>
            intro vs wx hG hv
            have e26 : vs 26 = .bool (!ab) := hv 26 (by decide)
            have HB := Lib.hid hG
            clear hv hG
            simp only [e26]
            go_wp2_with fail
            go_meet
            exact ⟨by rw [HSB.out], HB.out⟩
        · obtain ⟨k, rfl⟩ : ∃ k, i = k + 1 := ⟨i - 1, by omega⟩
          obtain ⟨ae, hB, _, gk0, _⟩ := ps_cells HPW.out.sr (i := k) (by omega)
          cases hB
          have hst1 := HPW.out.st (l[k]'(by omega)) (List.getElem_mem (by omega))
          have hhb : headB (l.map Prod.fst) (k + 1) = (cmpL (l[k]'(by omega)).1.set p.set == 0) := by
            unfold headB
            rw [show k + 1 - 1 = k by omega, getD_fst hlt, getD_fst (show k < l.length by omega), ← HXE.out, decide_eq_true (show 0 < k + 1 by omega), Bool.true_and]
          rw [hhb] at hskb
          generalize (l[k]'(by omega)) = y at *
          obtain ⟨p1, a1, d1⟩ := y
          simp only at gk0 hst1 hskb
          have HSQ0 : Hid (∀ wx, Below wr.heap.size wr wx → Calls Tryz.prog 23 #[.slice a1 p1.set.length d1, .slice a2 p.set.length d2] wx fun e w' => e = .returned (.bool (cmpL p1.set p.set == 0)) ∧ Below wx.heap.size wx w') := Lib.hid fun wx h =>
            rSame_any KP a1 a2 p1.set.length p.set.length d1 d2 p1.set p.set wx rfl rfl (hst1.below (h.mono (Nat.le_trans hKP hKr))) (HST.out.below (h.mono (Nat.le_trans hKP hKr))) (Nat.le_trans (Nat.le_trans hKP hKr) h.size)
          have x1 := q1
          have x2 := gd0
          have x3 := gk0
          have hk1 : (k : Int) + 1 < l.length := by omega
          have hk0 : k < l.length := by omega
          clear HSKB HRN gd0 gk0 hst1 hhb
          cases hsb : (cmpL p1.set p.set == 0) with
          | true =>
            have HSQ : Hid (∀ wx, Below wr.heap.size wr wx → Calls Tryz.prog 23 #[.slice a1 p1.set.length d1, .slice a2 p.set.length d2] wx fun e w' => e = .returned (.bool true) ∧ Below wx.heap.size wx w') := Lib.hid fun wx h => by rw [← hsb]; exact HSQ0.out wx h
            have HSB : Hid (skb = true) := Lib.hid (by rw [hskb, hsb]; rfl)
            clear hskb hsb HSQ0
            apply region_V (fun (pv : Value) u (_ : World) => u = pv) (fun wx => Below wr.heap.size wr wx) [(.int .i64 ((k : Int) + 1)), (.bool true), (.bool true), (.slice (some ad) l.length cap), (.int .i64 ((k : Int) + 1)), (.int .i64 (k : Nat)), (.pointer (some (ad.add (k * 8)))), (.pointer (some (ad.add (k * 8)))), (.slice a1 p1.set.length d1), (.slice (some ad) l.length cap), (.int .i64 ((k : Int) + 1)), (.pointer (some (ad.add ((k + 1) * 8)))), (.pointer (some (ad.add ((k + 1) * 8)))), (.slice a2 p.set.length d2), (.bool true), (.bool true), (.bool true), undef, undef, undef, undef, undef, undef, undef, undef, undef, (.bool true)] (undef)
            case mono => exact fun p v w0 w1 h hb => h
            case hm => kernel_rfl
            case hf => kernel_rfl
            case hQ => exact (by intro c x y w e h; exact And.intro (e.symm.trans (And.left h)) (And.right h))
            case hF => intro vs; simp only [putAll, Act.put, List.setIfInBounds_toArray, List.set_cons_zero, List.set_cons_succ, Nat.reduceAdd]; rfl
            case h0 => exact ⟨rfl, rfl, rfl, Nat.le_refl _, fun _ _ => rfl⟩
            case hstep =>
              repeat' (first | exact AllOps.nil | apply AllOps.cons)
              · intro vs wx hG hd K hK
                replace hK : ∀ (uu : Value) (w' : World), Below wx.heap.size wx w' → ((fun wx => Below wr.heap.size wr wx)) w' → (fun (pv : Value) u (_ : World) => u = pv) ((.int .i64 ((k : Int) + 1))) uu w' → K _ w' := hK
                simp only [Act.put, List.setIfInBounds_toArray, List.set_cons_zero, List.set_cons_succ] at hK ⊢
                have HK := Lib.hid hK
                have HG := Lib.hid hG
                clear hK hd
                clear hG
                go_simp
                exact HK.out _ _ (Below.refl _ _) HG.out rfl
              · intro vs wx hG hd K hK
                have e0 : vs 0 = .int .i64 ((k : Int) + 1) := hd.get (j := 0) (by simp [depsOf, Region.binds])
                replace hK : ∀ (uu : Value) (w' : World), Below wx.heap.size wx w' → ((fun wx => Below wr.heap.size wr wx)) w' → (fun (pv : Value) u (_ : World) => u = pv) ((.bool true)) uu w' → K _ w' := hK
                simp only [Act.put, List.setIfInBounds_toArray, List.set_cons_zero, List.set_cons_succ, e0] at hK ⊢
                have HK := Lib.hid hK
                have HG := Lib.hid hG
                clear hK hd e0
                clear hG
                go_simp
                exact HK.out _ _ (Below.refl _ _) HG.out rfl
              · intro vs wx hG hd K hK
                have e1 : vs 1 = .bool true := hd.get (j := 1) (by simp [depsOf, Region.binds])
                replace hK : ∀ (uu : Value) (w' : World), Below wx.heap.size wx w' → ((fun wx => Below wr.heap.size wr wx)) w' → (fun (pv : Value) u (_ : World) => u = pv) ((.bool true)) uu w' → K _ w' := hK
                simp only [Act.put, List.setIfInBounds_toArray, List.set_cons_zero, List.set_cons_succ, e1] at hK ⊢
                have HK := Lib.hid hK
                have HG := Lib.hid hG
                clear hK hd e1
                clear hG
                go_simp
                exact HK.out _ _ (Below.refl _ _) HG.out rfl
              · intro vs wx hG hd K hK
                have e2 : vs 2 = .bool true := hd.get (j := 2) (by simp [depsOf, Region.binds])
                replace hK : ∀ (uu : Value) (w' : World), Below wx.heap.size wx w' → ((fun wx => Below wr.heap.size wr wx)) w' → (fun (pv : Value) u (_ : World) => u = pv) ((.slice (some ad) l.length cap)) uu w' → K _ w' := hK
                simp only [Act.put, List.setIfInBounds_toArray, List.set_cons_zero, List.set_cons_succ, e2] at hK ⊢
                have HK := Lib.hid hK
                have HG := Lib.hid hG
                clear hK hd e2
                clear hG
                go_simp
                exact HK.out _ _ (Below.refl _ _) HG.out rfl
              · intro vs wx hG hd K hK
                have e2 : vs 2 = .bool true := hd.get (j := 2) (by simp [depsOf, Region.binds])
                replace hK : ∀ (uu : Value) (w' : World), Below wx.heap.size wx w' → ((fun wx => Below wr.heap.size wr wx)) w' → (fun (pv : Value) u (_ : World) => u = pv) ((.int .i64 ((k : Int) + 1))) uu w' → K _ w' := hK
                simp only [Act.put, List.setIfInBounds_toArray, List.set_cons_zero, List.set_cons_succ, e2] at hK ⊢
                have HK := Lib.hid hK
                have HG := Lib.hid hG
                clear hK hd e2
                clear hG
                go_simp
                exact HK.out _ _ (Below.refl _ _) HG.out rfl
              · intro vs wx hG hd K hK
                have e4 : vs 4 = .int .i64 ((k : Int) + 1) := hd.get (j := 4) (by simp [depsOf, Region.binds])
                have e2 : vs 2 = .bool true := hd.get (j := 2) (by simp [depsOf, Region.binds])
                replace hK : ∀ (uu : Value) (w' : World), Below wx.heap.size wx w' → ((fun wx => Below wr.heap.size wr wx)) w' → (fun (pv : Value) u (_ : World) => u = pv) ((.int .i64 (k : Nat))) uu w' → K _ w' := hK
                simp only [Act.put, List.setIfInBounds_toArray, List.set_cons_zero, List.set_cons_succ, e4, e2] at hK ⊢
                have HK := Lib.hid hK
                have HG := Lib.hid hG
                clear hK hd e4 e2
                clear hG
                go_simp
                exact HK.out _ _ (Below.refl _ _) HG.out (by rw [wrapk (by omega)])
              · intro vs wx hG hd K hK
                have e3 : vs 3 = .slice (some ad) l.length cap := hd.get (j := 3) (by simp [depsOf, Region.binds])
                have e5 : vs 5 = .int .i64 (k : Nat) := hd.get (j := 5) (by simp [depsOf, Region.binds])
                have e2 : vs 2 = .bool true := hd.get (j := 2) (by simp [depsOf, Region.binds])
                replace hK : ∀ (uu : Value) (w' : World), Below wx.heap.size wx w' → ((fun wx => Below wr.heap.size wr wx)) w' → (fun (pv : Value) u (_ : World) => u = pv) ((.pointer (some (ad.add (k * 8))))) uu w' → K _ w' := hK
                simp only [Act.put, List.setIfInBounds_toArray, List.set_cons_zero, List.set_cons_succ, e3, e5, e2] at hK ⊢
                have HK := Lib.hid hK
                have HG := Lib.hid hG
                clear hK hd e3 e5 e2
                clear hG
                go_simp
                exact HK.out _ _ (Below.refl _ _) HG.out rfl
              · intro vs wx hG hd K hK
                have e6 : vs 6 = .pointer (some (ad.add (k * 8))) := hd.get (j := 6) (by simp [depsOf, Region.binds])
                have e2 : vs 2 = .bool true := hd.get (j := 2) (by simp [depsOf, Region.binds])
                replace hK : ∀ (uu : Value) (w' : World), Below wx.heap.size wx w' → ((fun wx => Below wr.heap.size wr wx)) w' → (fun (pv : Value) u (_ : World) => u = pv) ((.pointer (some (ad.add (k * 8))))) uu w' → K _ w' := hK
                simp only [Act.put, List.setIfInBounds_toArray, List.set_cons_zero, List.set_cons_succ, e6, e2] at hK ⊢
                have HK := Lib.hid hK
                have HG := Lib.hid hG
                clear hK hd e6 e2
                clear hG
                go_simp
                exact HK.out _ _ (Below.refl _ _) HG.out rfl
              · intro vs wx hG hd K hK
                have e7 : vs 7 = .pointer (some (ad.add (k * 8))) := hd.get (j := 7) (by simp [depsOf, Region.binds])
                have e2 : vs 2 = .bool true := hd.get (j := 2) (by simp [depsOf, Region.binds])
                replace hK : ∀ (uu : Value) (w' : World), Below wx.heap.size wx w' → ((fun wx => Below wr.heap.size wr wx)) w' → (fun (pv : Value) u (_ : World) => u = pv) ((.slice a1 p1.set.length d1)) uu w' → K _ w' := hK
                simp only [Act.put, List.setIfInBounds_toArray, List.set_cons_zero, List.set_cons_succ, e7, e2] at hK ⊢
                have HK := Lib.hid hK
                have HG := Lib.hid hG
                clear hK hd e7 e2
                have hb1 := HG.out
                have y1 := kept hb1 x1
                have y2 := kept hb1 x2
                have yz := hb1.size
                have y3 := kept hb1 x3
                clear hb1 hG
                go_simp
                exact HK.out _ _ (Below.refl _ _) HG.out rfl
              · intro vs wx hG hd K hK
                have e2 : vs 2 = .bool true := hd.get (j := 2) (by simp [depsOf, Region.binds])
                replace hK : ∀ (uu : Value) (w' : World), Below wx.heap.size wx w' → ((fun wx => Below wr.heap.size wr wx)) w' → (fun (pv : Value) u (_ : World) => u = pv) ((.slice (some ad) l.length cap)) uu w' → K _ w' := hK
                simp only [Act.put, List.setIfInBounds_toArray, List.set_cons_zero, List.set_cons_succ, e2] at hK ⊢
                have HK := Lib.hid hK
                have HG := Lib.hid hG
                clear hK hd e2
                clear hG
                go_simp
                exact HK.out _ _ (Below.refl _ _) HG.out rfl
              · intro vs wx hG hd K hK
                have e2 : vs 2 = .bool true := hd.get (j := 2) (by simp [depsOf, Region.binds])
                replace hK : ∀ (uu : Value) (w' : World), Below wx.heap.size wx w' → ((fun wx => Below wr.heap.size wr wx)) w' → (fun (pv : Value) u (_ : World) => u = pv) ((.int .i64 ((k : Int) + 1))) uu w' → K _ w' := hK
                simp only [Act.put, List.setIfInBounds_toArray, List.set_cons_zero, List.set_cons_succ, e2] at hK ⊢
                have HK := Lib.hid hK
                have HG := Lib.hid hG
                clear hK hd e2
                clear hG
                go_simp
                exact HK.out _ _ (Below.refl _ _) HG.out rfl
              · intro vs wx hG hd K hK
                have e9 : vs 9 = .slice (some ad) l.length cap := hd.get (j := 9) (by simp [depsOf, Region.binds])
                have e10 : vs 10 = .int .i64 ((k : Int) + 1) := hd.get (j := 10) (by simp [depsOf, Region.binds])
                have e2 : vs 2 = .bool true := hd.get (j := 2) (by simp [depsOf, Region.binds])
                replace hK : ∀ (uu : Value) (w' : World), Below wx.heap.size wx w' → ((fun wx => Below wr.heap.size wr wx)) w' → (fun (pv : Value) u (_ : World) => u = pv) ((.pointer (some (ad.add ((k + 1) * 8))))) uu w' → K _ w' := hK
                simp only [Act.put, List.setIfInBounds_toArray, List.set_cons_zero, List.set_cons_succ, e9, e10, e2] at hK ⊢
                have HK := Lib.hid hK
                have HG := Lib.hid hG
                clear hK hd e9 e10 e2
                clear hG
                go_simp
                exact HK.out _ _ (Below.refl _ _) HG.out rfl
              · intro vs wx hG hd K hK
                have e11 : vs 11 = .pointer (some (ad.add ((k + 1) * 8))) := hd.get (j := 11) (by simp [depsOf, Region.binds])
                have e2 : vs 2 = .bool true := hd.get (j := 2) (by simp [depsOf, Region.binds])
                replace hK : ∀ (uu : Value) (w' : World), Below wx.heap.size wx w' → ((fun wx => Below wr.heap.size wr wx)) w' → (fun (pv : Value) u (_ : World) => u = pv) ((.pointer (some (ad.add ((k + 1) * 8))))) uu w' → K _ w' := hK
                simp only [Act.put, List.setIfInBounds_toArray, List.set_cons_zero, List.set_cons_succ, e11, e2] at hK ⊢
                have HK := Lib.hid hK
                have HG := Lib.hid hG
                clear hK hd e11 e2
                clear hG
                go_simp
                exact HK.out _ _ (Below.refl _ _) HG.out rfl
              · intro vs wx hG hd K hK
                have e12 : vs 12 = .pointer (some (ad.add ((k + 1) * 8))) := hd.get (j := 12) (by simp [depsOf, Region.binds])
                have e2 : vs 2 = .bool true := hd.get (j := 2) (by simp [depsOf, Region.binds])
                replace hK : ∀ (uu : Value) (w' : World), Below wx.heap.size wx w' → ((fun wx => Below wr.heap.size wr wx)) w' → (fun (pv : Value) u (_ : World) => u = pv) ((.slice a2 p.set.length d2)) uu w' → K _ w' := hK
                simp only [Act.put, List.setIfInBounds_toArray, List.set_cons_zero, List.set_cons_succ, e12, e2] at hK ⊢
                have HK := Lib.hid hK
                have HG := Lib.hid hG
                clear hK hd e12 e2
                have hb1 := HG.out
                have y1 := kept hb1 x1
                have y2 := kept hb1 x2
                have yz := hb1.size
                have y3 := kept hb1 x3
                clear hb1 hG
                go_simp
                exact HK.out _ _ (Below.refl _ _) HG.out rfl
              · intro vs wx hG hd K hK
                have e8 : vs 8 = .slice a1 p1.set.length d1 := hd.get (j := 8) (by simp [depsOf, Region.binds])
                have e13 : vs 13 = .slice a2 p.set.length d2 := hd.get (j := 13) (by simp [depsOf, Region.binds])
                have e2 : vs 2 = .bool true := hd.get (j := 2) (by simp [depsOf, Region.binds])
                replace hK : ∀ (uu : Value) (w' : World), Below wx.heap.size wx w' → ((fun wx => Below wr.heap.size wr wx)) w' → (fun (pv : Value) u (_ : World) => u = pv) ((.bool true)) uu w' → K _ w' := hK
                simp only [Act.put, List.setIfInBounds_toArray, List.set_cons_zero, List.set_cons_succ, e8, e13, e2] at hK ⊢
                have HK := Lib.hid hK
                have HG := Lib.hid hG
                clear hK hd e8 e13 e2
                have hb1 := HG.out
                clear hG
                go_simp
                go_at_call 23
                refine (HSQ.out wx hb1).mono ?_
                rintro en w9 ⟨rfl, hb⟩
                exact HK.out _ _ hb (HG.out.trans (hb.mono hb1.size)) rfl
              · intro vs wx hG hd K hK
                have e2 : vs 2 = .bool true := hd.get (j := 2) (by simp [depsOf, Region.binds])
                have e14 : vs 14 = .bool true := hd.get (j := 14) (by simp [depsOf, Region.binds])
                replace hK : ∀ (uu : Value) (w' : World), Below wx.heap.size wx w' → ((fun wx => Below wr.heap.size wr wx)) w' → (fun (pv : Value) u (_ : World) => u = pv) ((.bool true)) uu w' → K _ w' := hK
                simp only [Act.put, List.setIfInBounds_toArray, List.set_cons_zero, List.set_cons_succ, e2, e14] at hK ⊢
                have HK := Lib.hid hK
                have HG := Lib.hid hG
                clear hK hd e2 e14
                clear hG
                go_simp
                exact HK.out _ _ (Below.refl _ _) HG.out rfl
              · intro vs wx hG hd K hK
                have e15 : vs 15 = .bool true := hd.get (j := 15) (by simp [depsOf, Region.binds])
                replace hK : ∀ (uu : Value) (w' : World), Below wx.heap.size wx w' → ((fun wx => Below wr.heap.size wr wx)) w' → (fun (pv : Value) u (_ : World) => u = pv) ((.bool true)) uu w' → K _ w' := hK
                simp only [Act.put, List.setIfInBounds_toArray, List.set_cons_zero, List.set_cons_succ, e15] at hK ⊢
                have HK := Lib.hid hK
                have HG := Lib.hid hG
                clear hK hd e15
                clear hG
                go_simp
                exact HK.out _ _ (Below.refl _ _) HG.out rfl
              · intro vs wx hG hd K hK
                have e16 : vs 16 = .bool true := hd.get (j := 16) (by simp [depsOf, Region.binds])
                replace hK : ∀ (uu : Value) (w' : World), Below wx.heap.size wx w' → ((fun wx => Below wr.heap.size wr wx)) w' → (fun (pv : Value) u (_ : World) => u = pv) (undef) uu w' → K _ w' := hK
                simp only [Act.put, List.setIfInBounds_toArray, List.set_cons_zero, List.set_cons_succ, e16] at hK ⊢
                have HK := Lib.hid hK
                have HG := Lib.hid hG
                clear hK hd e16
                clear hG
                go_simp
                exact HK.out _ _ (Below.refl _ _) HG.out rfl
              · intro vs wx hG hd K hK
                have e16 : vs 16 = .bool true := hd.get (j := 16) (by simp [depsOf, Region.binds])
                replace hK : ∀ (uu : Value) (w' : World), Below wx.heap.size wx w' → ((fun wx => Below wr.heap.size wr wx)) w' → (fun (pv : Value) u (_ : World) => u = pv) (undef) uu w' → K _ w' := hK
                simp only [Act.put, List.setIfInBounds_toArray, List.set_cons_zero, List.set_cons_succ, e16] at hK ⊢
                have HK := Lib.hid hK
                have HG := Lib.hid hG
                clear hK hd e16
                clear hG
                go_simp
                exact HK.out _ _ (Below.refl _ _) HG.out rfl
              · intro vs wx hG hd K hK
                have e16 : vs 16 = .bool true := hd.get (j := 16) (by simp [depsOf, Region.binds])
                replace hK : ∀ (uu : Value) (w' : World), Below wx.heap.size wx w' → ((fun wx => Below wr.heap.size wr wx)) w' → (fun (pv : Value) u (_ : World) => u = pv) (undef) uu w' → K _ w' := hK
                simp only [Act.put, List.setIfInBounds_toArray, List.set_cons_zero, List.set_cons_succ, e16] at hK ⊢
                have HK := Lib.hid hK
                have HG := Lib.hid hG
                clear hK hd e16
                clear hG
                go_simp
                exact HK.out _ _ (Below.refl _ _) HG.out rfl
              · intro vs wx hG hd K hK
                have e16 : vs 16 = .bool true := hd.get (j := 16) (by simp [depsOf, Region.binds])
                replace hK : ∀ (uu : Value) (w' : World), Below wx.heap.size wx w' → ((fun wx => Below wr.heap.size wr wx)) w' → (fun (pv : Value) u (_ : World) => u = pv) (undef) uu w' → K _ w' := hK
                simp only [Act.put, List.setIfInBounds_toArray, List.set_cons_zero, List.set_cons_succ, e16] at hK ⊢
                have HK := Lib.hid hK
                have HG := Lib.hid hG
                clear hK hd e16
                clear hG
                go_simp
                exact HK.out _ _ (Below.refl _ _) HG.out rfl
              · intro vs wx hG hd K hK
                have e16 : vs 16 = .bool true := hd.get (j := 16) (by simp [depsOf, Region.binds])
                replace hK : ∀ (uu : Value) (w' : World), Below wx.heap.size wx w' → ((fun wx => Below wr.heap.size wr wx)) w' → (fun (pv : Value) u (_ : World) => u = pv) (undef) uu w' → K _ w' := hK
                simp only [Act.put, List.setIfInBounds_toArray, List.set_cons_zero, List.set_cons_succ, e16] at hK ⊢
                have HK := Lib.hid hK
                have HG := Lib.hid hG
                clear hK hd e16
                clear hG
                go_simp
                exact HK.out _ _ (Below.refl _ _) HG.out rfl
              · intro vs wx hG hd K hK
                have e16 : vs 16 = .bool true := hd.get (j := 16) (by simp [depsOf, Region.binds])
                replace hK : ∀ (uu : Value) (w' : World), Below wx.heap.size wx w' → ((fun wx => Below wr.heap.size wr wx)) w' → (fun (pv : Value) u (_ : World) => u = pv) (undef) uu w' → K _ w' := hK
                simp only [Act.put, List.setIfInBounds_toArray, List.set_cons_zero, List.set_cons_succ, e16] at hK ⊢
                have HK := Lib.hid hK
                have HG := Lib.hid hG
                clear hK hd e16
                clear hG
                go_simp
                exact HK.out _ _ (Below.refl _ _) HG.out rfl
              · intro vs wx hG hd K hK
                have e16 : vs 16 = .bool true := hd.get (j := 16) (by simp [depsOf, Region.binds])
                replace hK : ∀ (uu : Value) (w' : World), Below wx.heap.size wx w' → ((fun wx => Below wr.heap.size wr wx)) w' → (fun (pv : Value) u (_ : World) => u = pv) (undef) uu w' → K _ w' := hK
                simp only [Act.put, List.setIfInBounds_toArray, List.set_cons_zero, List.set_cons_succ, e16] at hK ⊢
                have HK := Lib.hid hK
                have HG := Lib.hid hG
                clear hK hd e16
                clear hG
                go_simp
                exact HK.out _ _ (Below.refl _ _) HG.out rfl
              · intro vs wx hG hd K hK
                have e16 : vs 16 = .bool true := hd.get (j := 16) (by simp [depsOf, Region.binds])
                replace hK : ∀ (uu : Value) (w' : World), Below wx.heap.size wx w' → ((fun wx => Below wr.heap.size wr wx)) w' → (fun (pv : Value) u (_ : World) => u = pv) (undef) uu w' → K _ w' := hK
                simp only [Act.put, List.setIfInBounds_toArray, List.set_cons_zero, List.set_cons_succ, e16] at hK ⊢
                have HK := Lib.hid hK
                have HG := Lib.hid hG
                clear hK hd e16
                clear hG
                go_simp
                exact HK.out _ _ (Below.refl _ _) HG.out rfl
              · intro vs wx hG hd K hK
                have e16 : vs 16 = .bool true := hd.get (j := 16) (by simp [depsOf, Region.binds])
                replace hK : ∀ (uu : Value) (w' : World), Below wx.heap.size wx w' → ((fun wx => Below wr.heap.size wr wx)) w' → (fun (pv : Value) u (_ : World) => u = pv) (undef) uu w' → K _ w' := hK
                simp only [Act.put, List.setIfInBounds_toArray, List.set_cons_zero, List.set_cons_succ, e16] at hK ⊢
                have HK := Lib.hid hK
                have HG := Lib.hid hG
                clear hK hd e16
                clear hG
                go_simp
                exact HK.out _ _ (Below.refl _ _) HG.out rfl
              · intro vs wx hG hd K hK
                have e16 : vs 16 = .bool true := hd.get (j := 16) (by simp [depsOf, Region.binds])
                have e25 : vs 25 = undef := hd.get (j := 25) (by simp [depsOf, Region.binds])
                replace hK : ∀ (uu : Value) (w' : World), Below wx.heap.size wx w' → ((fun wx => Below wr.heap.size wr wx)) w' → (fun (pv : Value) u (_ : World) => u = pv) ((.bool true)) uu w' → K _ w' := hK
                simp only [Act.put, List.setIfInBounds_toArray, List.set_cons_zero, List.set_cons_succ, e16, e25] at hK ⊢
                have HK := Lib.hid hK
                have HG := Lib.hid hG
                clear hK hd e16 e25
                clear hG
                go_simp
                exact HK.out _ _ (Below.refl _ _) HG.out rfl
            case hend =>
              intro vs wx hG hv
              have e26 : vs 26 = .bool true := hv 26 (by decide)
              have HB := Lib.hid hG
              clear hv hG
              simp only [e26]
              go_wp2_with fail
              go_meet
              exact ⟨by rw [HSB.out], HB.out⟩
          | false =>
            have HSQ : Hid (∀ wx, Below wr.heap.size wr wx → Calls Tryz.prog 23 #[.slice a1 p1.set.length d1, .slice a2 p.set.length d2] wx fun e w' => e = .returned (.bool false) ∧ Below wx.heap.size wx w') := Lib.hid fun wx h => by rw [← hsb]; exact HSQ0.out wx h
            have HSB : Hid (skb = !ab) := Lib.hid (by rw [hskb, hsb]; rfl)
            clear hskb hsb HSQ0
            apply region_V (fun (pv : Value) u (_ : World) => u = pv) (fun wx => Below wr.heap.size wr wx) [(.int .i64 ((k : Int) + 1)), (.bool true), (.bool true), (.slice (some ad) l.length cap), (.int .i64 ((k : Int) + 1)), (.int .i64 (k : Nat)), (.pointer (some (ad.add (k * 8)))), (.pointer (some (ad.add (k * 8)))), (.slice a1 p1.set.length d1), (.slice (some ad) l.length cap), (.int .i64 ((k : Int) + 1)), (.pointer (some (ad.add ((k + 1) * 8)))), (.pointer (some (ad.add ((k + 1) * 8)))), (.slice a2 p.set.length d2), (.bool false), (.bool false), (.bool false), (.pointer (some ⟨w.heap.size, 1, none⟩)), (.slice A q.rs.length c), (.slice (some ad) l.length cap), (.int .i64 ((k : Int) + 1)), (.pointer (some (ad.add ((k + 1) * 8)))), (.pointer (some (ad.add ((k + 1) * 8)))), (.slice a2 p.set.length d2), (.bool ab), (.bool (!ab)), (.bool (!ab))] (undef)
            case mono => exact fun p v w0 w1 h hb => h
            case hm => kernel_rfl
            case hf => kernel_rfl
            case hQ => exact (by intro c x y w e h; exact And.intro (e.symm.trans (And.left h)) (And.right h))
            case hF => intro vs; simp only [putAll, Act.put, List.setIfInBounds_toArray, List.set_cons_zero, List.set_cons_succ, Nat.reduceAdd]; rfl
            case h0 => exact ⟨rfl, rfl, rfl, Nat.le_refl _, fun _ _ => rfl⟩
            case hstep =>
              repeat' (first | exact AllOps.nil | apply AllOps.cons)
              · intro vs wx hG hd K hK
                replace hK : ∀ (uu : Value) (w' : World), Below wx.heap.size wx w' → ((fun wx => Below wr.heap.size wr wx)) w' → (fun (pv : Value) u (_ : World) => u = pv) ((.int .i64 ((k : Int) + 1))) uu w' → K _ w' := hK
                simp only [Act.put, List.setIfInBounds_toArray, List.set_cons_zero, List.set_cons_succ] at hK ⊢
                have HK := Lib.hid hK
                have HG := Lib.hid hG
                clear hK hd
                clear hG
                go_simp
                exact HK.out _ _ (Below.refl _ _) HG.out rfl
              · intro vs wx hG hd K hK
                have e0 : vs 0 = .int .i64 ((k : Int) + 1) := hd.get (j := 0) (by simp [depsOf, Region.binds])
                replace hK : ∀ (uu : Value) (w' : World), Below wx.heap.size wx w' → ((fun wx => Below wr.heap.size wr wx)) w' → (fun (pv : Value) u (_ : World) => u = pv) ((.bool true)) uu w' → K _ w' := hK
                simp only [Act.put, List.setIfInBounds_toArray, List.set_cons_zero, List.set_cons_succ, e0] at hK ⊢
                have HK := Lib.hid hK
                have HG := Lib.hid hG
                clear hK hd e0
                clear hG
                go_simp
                exact HK.out _ _ (Below.refl _ _) HG.out rfl
              · intro vs wx hG hd K hK
                have e1 : vs 1 = .bool true := hd.get (j := 1) (by simp [depsOf, Region.binds])
                replace hK : ∀ (uu : Value) (w' : World), Below wx.heap.size wx w' → ((fun wx => Below wr.heap.size wr wx)) w' → (fun (pv : Value) u (_ : World) => u = pv) ((.bool true)) uu w' → K _ w' := hK
                simp only [Act.put, List.setIfInBounds_toArray, List.set_cons_zero, List.set_cons_succ, e1] at hK ⊢
                have HK := Lib.hid hK
                have HG := Lib.hid hG
                clear hK hd e1
                clear hG
                go_simp
                exact HK.out _ _ (Below.refl _ _) HG.out rfl
              · intro vs wx hG hd K hK
                have e2 : vs 2 = .bool true := hd.get (j := 2) (by simp [depsOf, Region.binds])
                replace hK : ∀ (uu : Value) (w' : World), Below wx.heap.size wx w' → ((fun wx => Below wr.heap.size wr wx)) w' → (fun (pv : Value) u (_ : World) => u = pv) ((.slice (some ad) l.length cap)) uu w' → K _ w' := hK
                simp only [Act.put, List.setIfInBounds_toArray, List.set_cons_zero, List.set_cons_succ, e2] at hK ⊢
                have HK := Lib.hid hK
                have HG := Lib.hid hG
                clear hK hd e2
                clear hG
                go_simp
                exact HK.out _ _ (Below.refl _ _) HG.out rfl
              · intro vs wx hG hd K hK
                have e2 : vs 2 = .bool true := hd.get (j := 2) (by simp [depsOf, Region.binds])
                replace hK : ∀ (uu : Value) (w' : World), Below wx.heap.size wx w' → ((fun wx => Below wr.heap.size wr wx)) w' → (fun (pv : Value) u (_ : World) => u = pv) ((.int .i64 ((k : Int) + 1))) uu w' → K _ w' := hK
                simp only [Act.put, List.setIfInBounds_toArray, List.set_cons_zero, List.set_cons_succ, e2] at hK ⊢
                have HK := Lib.hid hK
                have HG := Lib.hid hG
                clear hK hd e2
                clear hG
                go_simp
                exact HK.out _ _ (Below.refl _ _) HG.out rfl
              · intro vs wx hG hd K hK
                have e4 : vs 4 = .int .i64 ((k : Int) + 1) := hd.get (j := 4) (by simp [depsOf, Region.binds])
                have e2 : vs 2 = .bool true := hd.get (j := 2) (by simp [depsOf, Region.binds])
                replace hK : ∀ (uu : Value) (w' : World), Below wx.heap.size wx w' → ((fun wx => Below wr.heap.size wr wx)) w' → (fun (pv : Value) u (_ : World) => u = pv) ((.int .i64 (k : Nat))) uu w' → K _ w' := hK
                simp only [Act.put, List.setIfInBounds_toArray, List.set_cons_zero, List.set_cons_succ, e4, e2] at hK ⊢
                have HK := Lib.hid hK
                have HG := Lib.hid hG
                clear hK hd e4 e2
                clear hG
                go_simp
                exact HK.out _ _ (Below.refl _ _) HG.out (by rw [wrapk (by omega)])
              · intro vs wx hG hd K hK
                have e3 : vs 3 = .slice (some ad) l.length cap := hd.get (j := 3) (by simp [depsOf, Region.binds])
                have e5 : vs 5 = .int .i64 (k : Nat) := hd.get (j := 5) (by simp [depsOf, Region.binds])
                have e2 : vs 2 = .bool true := hd.get (j := 2) (by simp [depsOf, Region.binds])
                replace hK : ∀ (uu : Value) (w' : World), Below wx.heap.size wx w' → ((fun wx => Below wr.heap.size wr wx)) w' → (fun (pv : Value) u (_ : World) => u = pv) ((.pointer (some (ad.add (k * 8))))) uu w' → K _ w' := hK
                simp only [Act.put, List.setIfInBounds_toArray, List.set_cons_zero, List.set_cons_succ, e3, e5, e2] at hK ⊢
                have HK := Lib.hid hK
                have HG := Lib.hid hG
                clear hK hd e3 e5 e2
                clear hG
                go_simp
                exact HK.out _ _ (Below.refl _ _) HG.out rfl
              · intro vs wx hG hd K hK
                have e6 : vs 6 = .pointer (some (ad.add (k * 8))) := hd.get (j := 6) (by simp [depsOf, Region.binds])
                have e2 : vs 2 = .bool true := hd.get (j := 2) (by simp [depsOf, Region.binds])
                replace hK : ∀ (uu : Value) (w' : World), Below wx.heap.size wx w' → ((fun wx => Below wr.heap.size wr wx)) w' → (fun (pv : Value) u (_ : World) => u = pv) ((.pointer (some (ad.add (k * 8))))) uu w' → K _ w' := hK
                simp only [Act.put, List.setIfInBounds_toArray, List.set_cons_zero, List.set_cons_succ, e6, e2] at hK ⊢
                have HK := Lib.hid hK
                have HG := Lib.hid hG
                clear hK hd e6 e2
                clear hG
                go_simp
                exact HK.out _ _ (Below.refl _ _) HG.out rfl
              · intro vs wx hG hd K hK
                have e7 : vs 7 = .pointer (some (ad.add (k * 8))) := hd.get (j := 7) (by simp [depsOf, Region.binds])
                have e2 : vs 2 = .bool true := hd.get (j := 2) (by simp [depsOf, Region.binds])
                replace hK : ∀ (uu : Value) (w' : World), Below wx.heap.size wx w' → ((fun wx => Below wr.heap.size wr wx)) w' → (fun (pv : Value) u (_ : World) => u = pv) ((.slice a1 p1.set.length d1)) uu w' → K _ w' := hK
                simp only [Act.put, List.setIfInBounds_toArray, List.set_cons_zero, List.set_cons_succ, e7, e2] at hK ⊢
                have HK := Lib.hid hK
                have HG := Lib.hid hG
                clear hK hd e7 e2
                have hb1 := HG.out
                have y1 := kept hb1 x1
                have y2 := kept hb1 x2
                have yz := hb1.size
                have y3 := kept hb1 x3
                clear hb1 hG
                go_simp
                exact HK.out _ _ (Below.refl _ _) HG.out rfl
              · intro vs wx hG hd K hK
                have e2 : vs 2 = .bool true := hd.get (j := 2) (by simp [depsOf, Region.binds])
                replace hK : ∀ (uu : Value) (w' : World), Below wx.heap.size wx w' → ((fun wx => Below wr.heap.size wr wx)) w' → (fun (pv : Value) u (_ : World) => u = pv) ((.slice (some ad) l.length cap)) uu w' → K _ w' := hK
                simp only [Act.put, List.setIfInBounds_toArray, List.set_cons_zero, List.set_cons_succ, e2] at hK ⊢
                have HK := Lib.hid hK
                have HG := Lib.hid hG
                clear hK hd e2
                clear hG
                go_simp
                exact HK.out _ _ (Below.refl _ _) HG.out rfl
              · intro vs wx hG hd K hK
                have e2 : vs 2 = .bool true := hd.get (j := 2) (by simp [depsOf, Region.binds])
                replace hK : ∀ (uu : Value) (w' : World), Below wx.heap.size wx w' → ((fun wx => Below wr.heap.size wr wx)) w' → (fun (pv : Value) u (_ : World) => u = pv) ((.int .i64 ((k : Int) + 1))) uu w' → K _ w' := hK
                simp only [Act.put, List.setIfInBounds_toArray, List.set_cons_zero, List.set_cons_succ, e2] at hK ⊢
                have HK := Lib.hid hK
                have HG := Lib.hid hG
                clear hK hd e2
                clear hG
                go_simp
                exact HK.out _ _ (Below.refl _ _) HG.out rfl
              · intro vs wx hG hd K hK
                have e9 : vs 9 = .slice (some ad) l.length cap := hd.get (j := 9) (by simp [depsOf, Region.binds])
                have e10 : vs 10 = .int .i64 ((k : Int) + 1) := hd.get (j := 10) (by simp [depsOf, Region.binds])
                have e2 : vs 2 = .bool true := hd.get (j := 2) (by simp [depsOf, Region.binds])
                replace hK : ∀ (uu : Value) (w' : World), Below wx.heap.size wx w' → ((fun wx => Below wr.heap.size wr wx)) w' → (fun (pv : Value) u (_ : World) => u = pv) ((.pointer (some (ad.add ((k + 1) * 8))))) uu w' → K _ w' := hK
                simp only [Act.put, List.setIfInBounds_toArray, List.set_cons_zero, List.set_cons_succ, e9, e10, e2] at hK ⊢
                have HK := Lib.hid hK
                have HG := Lib.hid hG
                clear hK hd e9 e10 e2
                clear hG
                go_simp
                exact HK.out _ _ (Below.refl _ _) HG.out rfl
              · intro vs wx hG hd K hK
                have e11 : vs 11 = .pointer (some (ad.add ((k + 1) * 8))) := hd.get (j := 11) (by simp [depsOf, Region.binds])
                have e2 : vs 2 = .bool true := hd.get (j := 2) (by simp [depsOf, Region.binds])
                replace hK : ∀ (uu : Value) (w' : World), Below wx.heap.size wx w' → ((fun wx => Below wr.heap.size wr wx)) w' → (fun (pv : Value) u (_ : World) => u = pv) ((.pointer (some (ad.add ((k + 1) * 8))))) uu w' → K _ w' := hK
                simp only [Act.put, List.setIfInBounds_toArray, List.set_cons_zero, List.set_cons_succ, e11, e2] at hK ⊢
                have HK := Lib.hid hK
                have HG := Lib.hid hG
                clear hK hd e11 e2
                clear hG
                go_simp
                exact HK.out _ _ (Below.refl _ _) HG.out rfl
              · intro vs wx hG hd K hK
                have e12 : vs 12 = .pointer (some (ad.add ((k + 1) * 8))) := hd.get (j := 12) (by simp [depsOf, Region.binds])
                have e2 : vs 2 = .bool true := hd.get (j := 2) (by simp [depsOf, Region.binds])
                replace hK : ∀ (uu : Value) (w' : World), Below wx.heap.size wx w' → ((fun wx => Below wr.heap.size wr wx)) w' → (fun (pv : Value) u (_ : World) => u = pv) ((.slice a2 p.set.length d2)) uu w' → K _ w' := hK
                simp only [Act.put, List.setIfInBounds_toArray, List.set_cons_zero, List.set_cons_succ, e12, e2] at hK ⊢
                have HK := Lib.hid hK
                have HG := Lib.hid hG
                clear hK hd e12 e2
                have hb1 := HG.out
                have y1 := kept hb1 x1
                have y2 := kept hb1 x2
                have yz := hb1.size
                have y3 := kept hb1 x3
                clear hb1 hG
                go_simp
                exact HK.out _ _ (Below.refl _ _) HG.out rfl
              · intro vs wx hG hd K hK
                have e8 : vs 8 = .slice a1 p1.set.length d1 := hd.get (j := 8) (by simp [depsOf, Region.binds])
                have e13 : vs 13 = .slice a2 p.set.length d2 := hd.get (j := 13) (by simp [depsOf, Region.binds])
                have e2 : vs 2 = .bool true := hd.get (j := 2) (by simp [depsOf, Region.binds])
                replace hK : ∀ (uu : Value) (w' : World), Below wx.heap.size wx w' → ((fun wx => Below wr.heap.size wr wx)) w' → (fun (pv : Value) u (_ : World) => u = pv) ((.bool false)) uu w' → K _ w' := hK
                simp only [Act.put, List.setIfInBounds_toArray, List.set_cons_zero, List.set_cons_succ, e8, e13, e2] at hK ⊢
                have HK := Lib.hid hK
                have HG := Lib.hid hG
                clear hK hd e8 e13 e2
                have hb1 := HG.out
                clear hG
                go_simp
                go_at_call 23
                refine (HSQ.out wx hb1).mono ?_
                rintro en w9 ⟨rfl, hb⟩
                exact HK.out _ _ hb (HG.out.trans (hb.mono hb1.size)) rfl
              · intro vs wx hG hd K hK
                have e2 : vs 2 = .bool true := hd.get (j := 2) (by simp [depsOf, Region.binds])
                have e14 : vs 14 = .bool false := hd.get (j := 14) (by simp [depsOf, Region.binds])
                replace hK : ∀ (uu : Value) (w' : World), Below wx.heap.size wx w' → ((fun wx => Below wr.heap.size wr wx)) w' → (fun (pv : Value) u (_ : World) => u = pv) ((.bool false)) uu w' → K _ w' := hK
                simp only [Act.put, List.setIfInBounds_toArray, List.set_cons_zero, List.set_cons_succ, e2, e14] at hK ⊢
                have HK := Lib.hid hK
                have HG := Lib.hid hG
                clear hK hd e2 e14
                clear hG
                go_simp
                exact HK.out _ _ (Below.refl _ _) HG.out rfl
              · intro vs wx hG hd K hK
                have e15 : vs 15 = .bool false := hd.get (j := 15) (by simp [depsOf, Region.binds])
                replace hK : ∀ (uu : Value) (w' : World), Below wx.heap.size wx w' → ((fun wx => Below wr.heap.size wr wx)) w' → (fun (pv : Value) u (_ : World) => u = pv) ((.bool false)) uu w' → K _ w' := hK
                simp only [Act.put, List.setIfInBounds_toArray, List.set_cons_zero, List.set_cons_succ, e15] at hK ⊢
                have HK := Lib.hid hK
                have HG := Lib.hid hG
                clear hK hd e15
                clear hG
                go_simp
                exact HK.out _ _ (Below.refl _ _) HG.out rfl
              · intro vs wx hG hd K hK
                have e16 : vs 16 = .bool false := hd.get (j := 16) (by simp [depsOf, Region.binds])
                replace hK : ∀ (uu : Value) (w' : World), Below wx.heap.size wx w' → ((fun wx => Below wr.heap.size wr wx)) w' → (fun (pv : Value) u (_ : World) => u = pv) ((.pointer (some ⟨w.heap.size, 1, none⟩))) uu w' → K _ w' := hK
                simp only [Act.put, List.setIfInBounds_toArray, List.set_cons_zero, List.set_cons_succ, e16] at hK ⊢
                have HK := Lib.hid hK
                have HG := Lib.hid hG
                clear hK hd e16
                clear hG
                go_simp
                exact HK.out _ _ (Below.refl _ _) HG.out rfl
              · intro vs wx hG hd K hK
                have e17 : vs 17 = .pointer (some ⟨w.heap.size, 1, none⟩) := hd.get (j := 17) (by simp [depsOf, Region.binds])
                have e16 : vs 16 = .bool false := hd.get (j := 16) (by simp [depsOf, Region.binds])
                replace hK : ∀ (uu : Value) (w' : World), Below wx.heap.size wx w' → ((fun wx => Below wr.heap.size wr wx)) w' → (fun (pv : Value) u (_ : World) => u = pv) ((.slice A q.rs.length c)) uu w' → K _ w' := hK
                simp only [Act.put, List.setIfInBounds_toArray, List.set_cons_zero, List.set_cons_succ, e17, e16] at hK ⊢
                have HK := Lib.hid hK
                have HG := Lib.hid hG
                clear hK hd e17 e16
                have hb1 := HG.out
                have y1 := kept hb1 x1
                have y2 := kept hb1 x2
                have yz := hb1.size
                have y3 := kept hb1 x3
                clear hb1 hG
                go_simp
                exact HK.out _ _ (Below.refl _ _) HG.out rfl
              · intro vs wx hG hd K hK
                have e16 : vs 16 = .bool false := hd.get (j := 16) (by simp [depsOf, Region.binds])
                replace hK : ∀ (uu : Value) (w' : World), Below wx.heap.size wx w' → ((fun wx => Below wr.heap.size wr wx)) w' → (fun (pv : Value) u (_ : World) => u = pv) ((.slice (some ad) l.length cap)) uu w' → K _ w' := hK
                simp only [Act.put, List.setIfInBounds_toArray, List.set_cons_zero, List.set_cons_succ, e16] at hK ⊢
                have HK := Lib.hid hK
                have HG := Lib.hid hG
                clear hK hd e16
                clear hG
                go_simp
                exact HK.out _ _ (Below.refl _ _) HG.out rfl
              · intro vs wx hG hd K hK
                have e16 : vs 16 = .bool false := hd.get (j := 16) (by simp [depsOf, Region.binds])
                replace hK : ∀ (uu : Value) (w' : World), Below wx.heap.size wx w' → ((fun wx => Below wr.heap.size wr wx)) w' → (fun (pv : Value) u (_ : World) => u = pv) ((.int .i64 ((k : Int) + 1))) uu w' → K _ w' := hK
                simp only [Act.put, List.setIfInBounds_toArray, List.set_cons_zero, List.set_cons_succ, e16] at hK ⊢
                have HK := Lib.hid hK
                have HG := Lib.hid hG
                clear hK hd e16
                clear hG
                go_simp
                exact HK.out _ _ (Below.refl _ _) HG.out rfl
              · intro vs wx hG hd K hK
                have e19 : vs 19 = .slice (some ad) l.length cap := hd.get (j := 19) (by simp [depsOf, Region.binds])
                have e20 : vs 20 = .int .i64 ((k : Int) + 1) := hd.get (j := 20) (by simp [depsOf, Region.binds])
                have e16 : vs 16 = .bool false := hd.get (j := 16) (by simp [depsOf, Region.binds])
                replace hK : ∀ (uu : Value) (w' : World), Below wx.heap.size wx w' → ((fun wx => Below wr.heap.size wr wx)) w' → (fun (pv : Value) u (_ : World) => u = pv) ((.pointer (some (ad.add ((k + 1) * 8))))) uu w' → K _ w' := hK
                simp only [Act.put, List.setIfInBounds_toArray, List.set_cons_zero, List.set_cons_succ, e19, e20, e16] at hK ⊢
                have HK := Lib.hid hK
                have HG := Lib.hid hG
                clear hK hd e19 e20 e16
                clear hG
                go_simp
                exact HK.out _ _ (Below.refl _ _) HG.out rfl
              · intro vs wx hG hd K hK
                have e21 : vs 21 = .pointer (some (ad.add ((k + 1) * 8))) := hd.get (j := 21) (by simp [depsOf, Region.binds])
                have e16 : vs 16 = .bool false := hd.get (j := 16) (by simp [depsOf, Region.binds])
                replace hK : ∀ (uu : Value) (w' : World), Below wx.heap.size wx w' → ((fun wx => Below wr.heap.size wr wx)) w' → (fun (pv : Value) u (_ : World) => u = pv) ((.pointer (some (ad.add ((k + 1) * 8))))) uu w' → K _ w' := hK
                simp only [Act.put, List.setIfInBounds_toArray, List.set_cons_zero, List.set_cons_succ, e21, e16] at hK ⊢
                have HK := Lib.hid hK
                have HG := Lib.hid hG
                clear hK hd e21 e16
                clear hG
                go_simp
                exact HK.out _ _ (Below.refl _ _) HG.out rfl
              · intro vs wx hG hd K hK
                have e22 : vs 22 = .pointer (some (ad.add ((k + 1) * 8))) := hd.get (j := 22) (by simp [depsOf, Region.binds])
                have e16 : vs 16 = .bool false := hd.get (j := 16) (by simp [depsOf, Region.binds])
                replace hK : ∀ (uu : Value) (w' : World), Below wx.heap.size wx w' → ((fun wx => Below wr.heap.size wr wx)) w' → (fun (pv : Value) u (_ : World) => u = pv) ((.slice a2 p.set.length d2)) uu w' → K _ w' := hK
                simp only [Act.put, List.setIfInBounds_toArray, List.set_cons_zero, List.set_cons_succ, e22, e16] at hK ⊢
                have HK := Lib.hid hK
                have HG := Lib.hid hG
                clear hK hd e22 e16
                have hb1 := HG.out
                have y1 := kept hb1 x1
                have y2 := kept hb1 x2
                have yz := hb1.size
                have y3 := kept hb1 x3
                clear hb1 hG
                go_simp
                exact HK.out _ _ (Below.refl _ _) HG.out rfl
              · intro vs wx hG hd K hK
                have e18 : vs 18 = .slice A q.rs.length c := hd.get (j := 18) (by simp [depsOf, Region.binds])
                have e23 : vs 23 = .slice a2 p.set.length d2 := hd.get (j := 23) (by simp [depsOf, Region.binds])
                have e16 : vs 16 = .bool false := hd.get (j := 16) (by simp [depsOf, Region.binds])
                replace hK : ∀ (uu : Value) (w' : World), Below wx.heap.size wx w' → ((fun wx => Below wr.heap.size wr wx)) w' → (fun (pv : Value) u (_ : World) => u = pv) ((.bool ab)) uu w' → K _ w' := hK
                simp only [Act.put, List.setIfInBounds_toArray, List.set_cons_zero, List.set_cons_succ, e18, e23, e16] at hK ⊢
                have HK := Lib.hid hK
                have HG := Lib.hid hG
                clear hK hd e18 e23 e16
                have hb1 := HG.out
                clear hG
                go_simp
                go_at_call 24
                refine (HAQ.out wx hb1).mono ?_
                rintro en w9 ⟨rfl, hb⟩
                exact HK.out _ _ hb (HG.out.trans (hb.mono hb1.size)) rfl
              · intro vs wx hG hd K hK
                have e24 : vs 24 = .bool ab := hd.get (j := 24) (by simp [depsOf, Region.binds])
                have e16 : vs 16 = .bool false := hd.get (j := 16) (by simp [depsOf, Region.binds])
                replace hK : ∀ (uu : Value) (w' : World), Below wx.heap.size wx w' → ((fun wx => Below wr.heap.size wr wx)) w' → (fun (pv : Value) u (_ : World) => u = pv) ((.bool (!ab))) uu w' → K _ w' := hK
                simp only [Act.put, List.setIfInBounds_toArray, List.set_cons_zero, List.set_cons_succ, e24, e16] at hK ⊢
                have HK := Lib.hid hK
                have HG := Lib.hid hG
                clear hK hd e24 e16
                clear hG
                go_simp
                exact HK.out _ _ (Below.refl _ _) HG.out rfl
              · intro vs wx hG hd K hK
                have e16 : vs 16 = .bool false := hd.get (j := 16) (by simp [depsOf, Region.binds])
                have e25 : vs 25 = .bool (!ab) := hd.get (j := 25) (by simp [depsOf, Region.binds])
                replace hK : ∀ (uu : Value) (w' : World), Below wx.heap.size wx w' → ((fun wx => Below wr.heap.size wr wx)) w' → (fun (pv : Value) u (_ : World) => u = pv) ((.bool (!ab))) uu w' → K _ w' := hK
                simp only [Act.put, List.setIfInBounds_toArray, List.set_cons_zero, List.set_cons_succ, e16, e25] at hK ⊢
                have HK := Lib.hid hK
                have HG := Lib.hid hG
                clear hK hd e16 e25
                clear hG
                go_simp
                exact HK.out _ _ (Below.refl _ _) HG.out rfl
            case hend =>
              intro vs wx hG hv
              have e26 : vs 26 = .bool (!ab) := hv 26 (by decide)
              have HB := Lib.hid hG
              clear hv hG
              simp only [e26]
              go_wp2_with fail
              go_meet
              exact ⟨by rw [HSB.out], HB.out⟩
      case rest =>
        obtain ⟨rfl, hbx⟩ := hcut
        rename World => W5
        have hB5 : Below K W0 W5 := HBL.out.trans (hbx.mono hKr)
        have hA5 := HAN.out.below hbx (by omega)
        have hK5 : K ≤ W5.heap.size := Nat.le_trans hKr hbx.size
        have HB5 := Lib.hid hB5
        have HA5 := Lib.hid hA5
        clear hbx hB5 hA5 HAQ HAN HBL HPW q0 q1 q2 q3 q4 q5 qz HST gd0 hKr
        cases hsk : skb with
        | true =>
          have HN : Hid (qdocGo q (l.map Prod.fst) (l.length - (i + 1)) (i + 1) (rows.map Prod.fst) (notes.map Prod.fst) = res) := Lib.hid (by
            rw [if_pos (by rw [hskb, HAB.out] at hsk; simpa using hsk), ← hf2] at HRN
            exact HRN)
          clear HRN hskb hsk HSKB HAB
          go_wp2_with fail
          go_roundw
          case rel => exact ⟨i + 1, rows, notes, A1, A2, c1, c2, by go_num, hlt, HA5.out, HN, HB5.out, Nat.le_succ_of_le hrl, Nat.le_trans hnl (Nat.mul_le_mul_right _ (Nat.le_succ _))⟩
          case measure => simp [intOf]; omega
        | false =>
        have HNS : Hid (¬ (headB (l.map Prod.fst) i = true ∨ allB p.set q.rs = false)) := Lib.hid (by rw [hskb, HAB.out] at hsk; simpa using hsk)
        have HTG : Hid ((if (tellQ q (((l.map Prod.fst).drop i).take (firstN ((l.map Prod.fst).drop i)))).1 ≠ 0 then ((tellQ q (((l.map Prod.fst).drop i).take (firstN ((l.map Prod.fst).drop i)))).1, [], []) else qdocGo q (l.map Prod.fst) f (i + 1) (rows.map Prod.fst ++ (tellQ q (((l.map Prod.fst).drop i).take (firstN ((l.map Prod.fst).drop i)))).2.1) (notes.map Prod.fst ++ (tellQ q (((l.map Prod.fst).drop i).take (firstN ((l.map Prod.fst).drop i)))).2.2)) = res) := Lib.hid (by rw [if_neg HNS.out] at HRN; exact HRN)
        clear HRN hskb hsk HSKB HAB
        obtain ⟨G, hG⟩ : ∃ G, G = (l.map Prod.fst).drop i := ⟨_, rfl⟩
        rw [← hG] at HTG
        have hGl : G.length = l.length - i := by rw [hG, List.length_drop, List.length_map]
        have hNl := firstN_le G
        have HSA : setAt G = p.set := by
          rw [hG, setAt_drop (by rw [List.length_map]; exact hlt), getD_fst hlt, ← HXE.out]
        have HGJ : Hid (∀ j y (_ : y = i + j) (h : y < l.length), G[j]? = some (l[y]'h).1) := Lib.hid fun j y e h => by
          subst e
          rw [hG, List.getElem?_drop, List.getElem?_map, List.getElem?_eq_getElem h]; rfl
        have HSA := Lib.hid HSA
        have HGE := Lib.hid hG
        clear hG
        have HRC : Hid (∀ r ∈ rows, ∀ g, (Value.slice r.2.2.1 r.1.2.length r.2.2.2).ownBlock = some g → g < W5.heap.size) := Lib.hid fun r hr g e => ((HA5.out.rg.ce r hr).lt g e).2
        obtain ⟨K5, hK5e⟩ : ∃ K5, K5 = W5.heap.size := ⟨_, rfl⟩
        rw [← hK5e] at HRC hK5
        have HI0 : Hid (In9 q G W5 W0 K K5 KP b A1 c1 rows notes i 0 i 0 [] [] none none A2 0 0 c2) := Lib.hid ⟨rfl, Nat.zero_le _, rfl, rfl, Nat.le_refl _, rfl, Nat.le_refl _, So.empty _ _ _ _ _, ⟨So.empty _ _ _ _ _, by rw [List.append_nil]; exact HA5.out, HB5.out, by omega, hK5, hKP, hbK, HRC.out⟩⟩
        clear HA5 hK5e HB5
        go_wp2_with fail
        go_loopw [8, 9, 10] (fun v8 v9 v10 wx => ∃ (j y m : Nat) (sm : List Smp) (ns : List Pz) (A8 A9 A3 : Option Addr) (c8 c9 c3 : Nat), v10 = .int .i64 y ∧ v8 = .slice A8 m c8 ∧ v9 = .slice A9 m c9 ∧ y ≤ l.length ∧
          In9 q G wx W0 K K5 KP b A1 c1 rows notes i j y m sm ns A8 A9 A3 c8 c9 c3) (fun _ _ v10 _ => l.length - (intOf v10).toNat)
        case atStart => exact ⟨0, i, 0, [], [], none, none, A2, 0, 0, c2, rfl, rfl, rfl, hi, HI0.out⟩
        case round =>
          obtain ⟨j, y, m, sm, ns, A8, A9, A3, c8, c9, c3, rfl, rfl, rfl, hyl, hin⟩ := hrel
          rename World => W6
          have hyj := hin.hy
          have hj := hin.hj
          have hlm := hin.lm
          have hnl2 := hin.nl
          have HP6 := Lib.hid (HP.out.below (hin.ix.bl.mono hKP))
          have hK6 : K ≤ W6.heap.size := Nat.le_trans hin.ix.kk hin.ix.bk
          have HI6 := Lib.hid hin
          clear hin
          obtain ⟨ad1, hA1, _, gi0, _⟩ := ps_cells HP6.out.sr hlt
          cases hA1
          have hst6 := HP6.out.st l[i] (List.getElem_mem hlt)
          rw [← HXE.out] at gi0 hst6
          simp only at gi0 hst6
          obtain ⟨gb, hgb⟩ : ∃ gb, gb = decide (j < firstN G) := ⟨_, rfl⟩
          go_upto_region 11 with fail
          go_cut [73] from 57 to 72 (fun v wx => v = .bool gb ∧ Below W6.heap.size W6 wx)
          case first =>
            by_cases hlj : y < l.length
            · obtain ⟨ad1, hA1, _, gj0, _⟩ := ps_cells HP6.out.sr hlj
              cases hA1
              have hstj := HP6.out.st (l[y]'hlj) (List.getElem_mem hlj)
              have hgj := HGJ.out j y hyj hlj
              have hij : (y : Int) < l.length := by omega
              generalize (l[y]'hlj) = z at *
              obtain ⟨z, a1, d1⟩ := z
              simp only at gj0 hstj hgj
              have hjG : j < G.length := by omega
              have hge : G[j] = z := by rw [List.getElem?_eq_getElem hjG] at hgj; exact Option.some.inj hgj
              have hgs : gb = (cmpL z.set p.set == 0) := by
                rw [hgb, ← HSA.out, ← hge]
                by_cases hjN : j < firstN G
                · rw [firstN_in hjN hjG, cmpL_self, decide_eq_true hjN]; rfl
                · have e : j = firstN G := by omega
                  have h9 := firstN_end (l := G) (by omega)
                  rw [decide_eq_false hjN]
                  have h8 : cmpL G[j].set (setAt G) ≠ 0 := by
                    simp only [e]
                    exact h9
                  exact (beq_eq_false_iff_ne.2 h8).symm
              have HSQ : Hid (∀ n, Calls Tryz.prog 23 #[.slice a1 z.set.length d1, .slice a2 p.set.length d2] (W6.drewN n) fun e w' => e = .returned (.bool gb) ∧ ∃ m, w' = (W6.drewN n).drewN m) := Lib.hid fun n => by
                rw [hgs]
                exact rSameQ_any KP a1 a2 z.set.length p.set.length d1 d2 z.set p.set (W6.drewN n) rfl rfl (hstj.drewN n) (hst6.drewN n)
              have hi1 : (i : Int) < l.length := by omega
              have HJ1 := Lib.hid hlj
              have HGS := Lib.hid hgs
              have HYJ := Lib.hid hyj
              clear hgs hgj hge hgb hstj hst6 hyj
              go_big_quiet (first | (go_at_call 23; exact Calls.quiet_of (HSQ.out _)))
              go_wp2_with fail
              go_meet
              exact ⟨rfl, below_drewP (Below.refl _ _) _⟩
            · have hgf : gb = false := by rw [hgb]; exact decide_eq_false (by omega)
              have hij : ¬ (y : Int) < l.length := by omega
              have HGF := Lib.hid hgf
              have HYJ := Lib.hid hyj
              clear hgf hgb hst6 hyj
              go_big_quiet (fail)
              go_wp2_with fail
              go_meet
              exact ⟨by rw [HGF.out], below_drewP (Below.refl _ _) _⟩
          case rest =>
            obtain ⟨rfl, hbx⟩ := hcut
            rename World => W7
            have hK7 : K ≤ W7.heap.size := Nat.le_trans hK6 hbx.size
            have HI7 := Lib.hid (HI6.out.below hbx)
            clear hbx HI6 gi0 hst6 HP6 hK6
            cases hgc : gb with
            | true =>
              have hjN : j < firstN G := by rw [hgc] at hgb; simpa using hgb.symm
              have hlj : y < l.length := by omega
              have HP7 := Lib.hid (HP.out.below (HI7.out.ix.bl.mono hKP))
              obtain ⟨ad1, hA1, _, g0, g1, g2, g3, g4, g5, g6, g7⟩ := ps_cells HP7.out.sr hlj
              cases hA1
              have hst7 := HP7.out.st (l[y]'hlj) (List.getElem_mem hlj)
              have hgj := HGJ.out j y hyj hlj
              have hij : (y : Int) < l.length := by omega
              generalize (l[y]'hlj) = z at *
              have hjG : j < G.length := by omega
              have HGE : Hid (G[j] = z.1) := Lib.hid (by rw [List.getElem?_eq_getElem hjG] at hgj; exact Option.some.inj hgj)
              have HST := Lib.hid hst7
              have HB71 : Hid (Below W7.heap.size W7 (W7.alloc (.cells (ceP z) 65))) := Lib.hid ((Below.refl _ _).alloc (Nat.le_refl _) _)
              have HPX : Hid (Rwo (W7.alloc (.cells (ceP z) 65)) W7.heap.size (ceP z) 65) := Lib.hid ⟨heap_alloc_new W7 _⟩
              have hzx : (W7.alloc (.cells (ceP z) 65)).heap.size = W7.heap.size + 1 := by simp
              have HIZ := Lib.hid (HI7.out.below HB71.out)
              have HYJ := Lib.hid hyj
              have HSZ := Lib.hid (HST.out.below (HB71.out.mono (Nat.le_trans hKP hK7)))
              clear hgb hgc hgj hst7 HI7 HP7 hyj
              go_upto_region 14 with fail
              obtain ⟨W8, hW8⟩ : ∃ W8, W8 = W7.alloc (.cells (ceP z) 65) := ⟨_, rfl⟩
              rw [← hW8] at HPX hzx HIZ HSZ
              rw [← hW8]
              clear hW8 g0 g1 g2 g3 g4 g5 g6 g7 HB71
              obtain ⟨q0, q1, q2, q3, q4, q5⟩ := HQ9.out W8 HIZ.out.ix.bl
              have qz := HZ9.out W8 HIZ.out.ix.bl
              have x0 : W8.cell? ⟨W7.heap.size, 0, none⟩ = some (.slice z.2.1 z.1.set.length z.2.2) := HPX.out.cell rfl
              have x1 : W8.cell? ⟨W7.heap.size, 1, none⟩ = some (.int .i64 z.1.t) := HPX.out.cell rfl
              have x2 : W8.cell? ⟨W7.heap.size, 2, none⟩ = some (.int .i64 z.1.k) := HPX.out.cell rfl
              have x3 : W8.cell? ⟨W7.heap.size, 3, none⟩ = some (.int .i64 z.1.n) := HPX.out.cell rfl
              have x4 : W8.cell? ⟨W7.heap.size, 4, none⟩ = some (.string z.1.x) := HPX.out.cell rfl
              have x5 : W8.cell? ⟨W7.heap.size, 5, none⟩ = some (.int .i64 z.1.a) := HPX.out.cell rfl
              have x6 : W8.cell? ⟨W7.heap.size, 6, none⟩ = some (.int .u32 z.1.b) := HPX.out.cell rfl
              have x7 : W8.cell? ⟨W7.heap.size, 7, none⟩ = some (.int .u32 z.1.c) := HPX.out.cell rfl
              have hzz : W7.heap.size < W8.heap.size := by omega
              clear hzx
              cases d1 : decide (z.1.t < q.fr) with
              | true =>
                have HI : Hid (inQ q z.1 = false) := Lib.hid (by simp at d1; unfold inQ; rw [decide_eq_false (by omega)]; rfl)
                go_wp2_with fail
                go_roundw
                case rel => exact ⟨j + 1, y + 1, m, sm, ns, A8, A9, A3, c8, c9, c3, by go_num, rfl, rfl, hlj, HIZ.out.skip hjN hjG HGE.out (by rw [HI.out]; rfl) (by rw [HI.out]; rfl)⟩
                case measure => simp [intOf]; omega
              | false =>
              cases d2 : decide (q.to_ ≤ z.1.t) with
              | true =>
                have HI : Hid (inQ q z.1 = false) := Lib.hid (by simp at d2; unfold inQ; rw [decide_eq_false (show ¬ z.1.t < q.to_ by omega), Bool.and_false])
                go_wp2_with fail
                go_roundw
                case rel => exact ⟨j + 1, y + 1, m, sm, ns, A8, A9, A3, c8, c9, c3, by go_num, rfl, rfl, hlj, HIZ.out.skip hjN hjG HGE.out (by rw [HI.out]; rfl) (by rw [HI.out]; rfl)⟩
                case measure => simp [intOf]; omega
              | false =>
              have HI : Hid (inQ q z.1 = true) := Lib.hid (by simp at d1 d2; unfold inQ; rw [decide_eq_true (show q.fr ≤ z.1.t by omega), decide_eq_true (show z.1.t < q.to_ by omega)]; rfl)
              cases d3 : (z.1.k == (1 : Int)) with
              | true =>
                have hk1 : z.1.k = 1 := by simpa using d3
                have HK1 := Lib.hid hk1
                have d4 : (z.1.k == (2 : Int)) = false := by rw [hk1]; rfl
                have H88 := Lib.hid HIZ.out.h8
                have HSM := Lib.hid HIZ.out.hm
                clear hk1
                go_upto_region 17 with (at_builtin; refine wpList_pushE Tryz.underlying78 info_rs rfl (by decide) W8 rfl (.tmp 95) (.tmp 101) rfl K (.slice A8 m c8) sm rfl H88.out (z.1.t, z.1.n) _ rfl rfl (encSm_one _) _ W8.heap.size rfl rfl (m + 1) (by rw [HSM.out]) (by unfold maxLen; omega) (by omega) (Nat.le_trans hK7 (Nat.le_of_lt hzz)) ?_; intro B8 e8 w9 so9 hg9 hat9)
                have HIX := Lib.hid (HIZ.out.ix.grow8 H88.out hg9)
                have HPX9 := Lib.hid (HPX.out.grown hg9 (H88.out.nebox2 HPX.out (by decide)))
                have HSO9 := Lib.hid so9
                obtain ⟨r0, r1, r2, r3, r4, r5⟩ := HQ9.out w9 HIX.out.bl
                have rz := HZ9.out w9 HIX.out.bl
                have y1 : w9.cell? ⟨W7.heap.size, 1, none⟩ = some (.int .i64 z.1.t) := HPX9.out.cell rfl
                have y2 : w9.cell? ⟨W7.heap.size, 2, none⟩ = some (.int .i64 z.1.k) := HPX9.out.cell rfl
                have y3 : w9.cell? ⟨W7.heap.size, 3, none⟩ = some (.int .i64 z.1.n) := HPX9.out.cell rfl
                have hz9 : W7.heap.size < w9.heap.size := HPX9.out.lt
                have hz5 : K5 ≤ w9.heap.size := HIX.out.bk
                clear hat9 hg9 so9 x0 x1 x2 x3 x4 x5 x6 x7 q0 q1 q2 q3 q4 q5 qz
                go_upto_region 18 with (at_builtin; refine wpList_pushE Tryz.underlying79 info_rc rfl (by decide) w9 rfl (.tmp 103) (.tmp 109) rfl K5 (.slice A9 m c9) sm rfl HIX.out.h9 (z.1.t, z.1.n) _ rfl rfl (encSm_one _) _ w9.heap.size rfl rfl (m + 1) (by rw [HSM.out]) (by unfold maxLen; omega) (by omega) hz5 ?_; intro B9 e9 w10 so10 hg10 hat10)
                have HIX2 := Lib.hid (HIX.out.grow9 hg10 so10)
                have HPX2 := Lib.hid (HPX9.out.grown hg10 (HIX.out.h9.nebox2 HPX9.out (by decide)))
                have HSO2 := Lib.hid (HSO9.out.keepO HIX.out.h9 (by decide) hg10)
                obtain ⟨u0, u1, u2, u3, u4, u5⟩ := HQ9.out w10 HIX2.out.bl
                have uz := HZ9.out w10 HIX2.out.bl
                have v2 : w10.cell? ⟨W7.heap.size, 2, none⟩ = some (.int .i64 z.1.k) := HPX2.out.cell rfl
                have hz10 : W7.heap.size < w10.heap.size := HPX2.out.lt
                clear hat10 hg10 so10 y1 y2 y3 r0 r1 r2 r3 r4 r5 rz
                go_wp2_with fail
                go_roundw
                case rel => exact ⟨j + 1, y + 1, m + 1, sm ++ [(z.1.t, z.1.n)], ns, B8, B9, A3, e8, e9, c3, by go_num, rfl, rfl, hlj, HIZ.out.smp hjN hjG HGE.out HI.out HK1.out HSO2.out HIX2.out⟩
                case measure => simp [intOf]; omega
              | false =>
              cases d4 : (z.1.k == (2 : Int)) with
              | false =>
                go_wp2_with fail
                go_roundw
                case rel => exact ⟨j + 1, y + 1, m, sm, ns, A8, A9, A3, c8, c9, c3, by go_num, rfl, rfl, hlj, HIZ.out.skip hjN hjG HGE.out (by rw [d3, Bool.and_false]) (by rw [d4, Bool.false_and, Bool.and_false])⟩
                case measure => simp [intOf]; omega
              | true =>
              rcases Bool.eq_false_or_eq_true q.nt with d5 | d5
              rotate_left
              · rw [d5] at q5
                have D5 := Lib.hid d5
                clear d5
                go_wp2_with fail
                go_roundw
                case rel => exact ⟨j + 1, y + 1, m, sm, ns, A8, A9, A3, c8, c9, c3, by go_num, rfl, rfl, hlj, HIZ.out.skip hjN hjG HGE.out (by rw [d3, Bool.and_false]) (by rw [D5.out, Bool.and_false, Bool.and_false])⟩
                case measure => simp [intOf]; omega
              · rw [d5] at q5
                have D5 := Lib.hid d5
                clear d5
                have HK2 : Hid (z.1.k = 2) := Lib.hid (by simpa using d4)
                have hax := HIZ.out.ix.ad
                have p1 : W8.cell? ⟨b, 1, none⟩ = some (.slice A3 (notes ++ ns).length c3) := hax.bx.cell rfl
                have pl := hax.bx.lt
                have HAX := Lib.hid hax
                obtain ⟨N2, hN2⟩ : ∃ N2, N2 = (notes ++ ns).length := ⟨_, rfl⟩
                rw [← hN2] at p1
                have hN3 : N2 ≤ 65536 * 65536 + 65536 := by
                  rw [hN2, List.length_append]
                  have h1 : notes.length ≤ 65536 * 65536 := Nat.le_trans hnl (Nat.mul_le_mul_right _ (by omega))
                  omega
                have HN2 := Lib.hid hN2
                clear hax hN2
                go_upto_region 12 with (at_builtin; refine wpList_pushE Tryz.underlying25 info_dpt rfl (by decide) W8 rfl (.tmp 119) (.tmp 121) rfl K (.slice A3 N2 c3) (notes ++ ns) rfl (by rw [HN2.out]; exact HAX.out.pw.so) z _ rfl rfl (encPz_one _) _ W8.heap.size rfl rfl (N2 + 1) (by rw [HN2.out]) (by unfold maxLen; omega) (by omega) (Nat.le_trans hK7 (Nat.le_of_lt hzz)) ?_; intro A0 c0 w9 so9 hg9 hat9; have HBX9 := Lib.hid (HAX.out.bx.grown (by rw [← HN2.out]; exact hg9) (HAX.out.pw.so.nebox2 HAX.out.bx (by decide))); have hl9 := HBX9.out.lt; have hf9 := HBX9.out.fr 1; have p9 : w9.cell? ⟨b, 1, none⟩ = some (.slice A3 (notes ++ ns).length c3) := HBX9.out.cell rfl)
                have HFI := Lib.hid (HIZ.out.ix.note HSZ.out (by rw [← HN2.out]; exact hg9) (by rw [← HN2.out]; exact so9))
                have HF8 := Lib.hid (HIZ.out.ix.note8 HIZ.out.h8 (by rw [← HN2.out]; exact hg9) (.slice A0 ((notes ++ ns).length + 1) c0))
                have HFN := Lib.hid (HIZ.out.note hjN hjG HGE.out HI.out HK2.out D5.out HF8.out HFI.out)
                rw [← HN2.out] at HFN
                clear HFI HF8
                go_wp2_with fail
                go_roundw
                case rel => exact ⟨j + 1, y + 1, m, sm, ns ++ [z], A8, A9, A0, c8, c9, c0, by go_num, rfl, rfl, hlj, HFN.out⟩
                case measure => simp [intOf]; omega
            | false =>
              have hjN : j = firstN G := by
                have : ¬ j < firstN G := by rw [hgc] at hgb; simpa using hgb.symm
                omega
              subst hjN
              obtain ⟨q0, q1, q2, q3, q4, q5⟩ := HQ9.out W7 HI7.out.ix.bl
              have qz := HZ9.out W7 HI7.out.ix.bl
              have hGl0 : 0 < G.length := by omega
              have hs1 := HI7.out.s1
              have hmm := HI7.out.hm
              have HSOK : Hid (∀ x ∈ sm, Sok x) := Lib.hid (by
                rw [hs1]
                exact smpsQ_ok q (fun y hy => by
                  have h1 := List.mem_of_mem_take hy
                  rw [HGE.out] at h1
                  obtain ⟨z, hz1, rfl⟩ := List.mem_map.1 (List.mem_of_mem_drop h1)
                  exact HOK.out z hz1))
              have HSRT : Hid (Srt sm) := Lib.hid (by
                rw [hs1, HGE.out]
                exact group_srt q hord (by rw [List.length_map]; exact hlt))
              have HT : Hid (tellQ q (G.take (firstN G)) = if (cellsQ q sm).1 ≠ 0 then ((cellsQ q sm).1, [], []) else (0, (if (cellsQ q sm).2 = [] then [] else [(p.set, (cellsQ q sm).2)]), ns.map Prod.fst)) := Lib.hid (by
                unfold tellQ
                rw [setAt_take hGl0, HSA.out, if_neg (fun h => HNS.out (.inr h)), ← hs1, HI7.out.n1])
              have HB7 := Lib.hid HI7.out.ix.bl
              have HA7 := Lib.hid HI7.out.ix.ad
              have H87 := Lib.hid HI7.out.h8
              have H97 := Lib.hid (HI7.out.ix.h9.more HI7.out.ix.kk)
              have hns9 : ns.length ≤ 65536 := by omega
              subst hmm
              clear hgb hgc hs1 HI7 hyj
              by_cases ho : q.op = 0
              · have HTF : Hid (tellQ q (G.take (firstN G)) = (0, (if sm = [] then [] else [(p.set, sm)]), ns.map Prod.fst)) := Lib.hid (by
                  rw [HT.out, show cellsQ q sm = (0, sm) from if_pos ho, if_neg (by simp)])
                rw [ho] at q0
                clear ho HT
                obtain ⟨w3, hw3⟩ : ∃ w3, w3 = W7 := ⟨_, rfl⟩
                obtain ⟨cells, hcells⟩ : ∃ cells, cells = sm := ⟨_, rfl⟩
                obtain ⟨CA, hCA⟩ : ∃ CA, CA = A9 := ⟨_, rfl⟩
                obtain ⟨cc, hcc⟩ : ∃ cc, cc = c9 := ⟨_, rfl⟩
                subst hw3 hcells hCA hcc
                have HBF := HB7
                have HAF := HA7
                have HCF := H97
                have hK3 : K ≤ w3.heap.size := by have := HBF.out.size; omega
                by_cases hce : cells = []
                · subst hce
                  have HNX : Hid (qdocGo q (l.map Prod.fst) f (i + 1) (rows.map Prod.fst) ((notes ++ ns).map Prod.fst) = res) := Lib.hid (by
                    have h := tg_next HTG.out HTF.out
                    rw [if_pos rfl, List.append_nil] at h
                    rw [List.map_append]
                    exact h)
                  go_wp2_with fail
                  go_roundw
                  case rel => exact ⟨i + 1, rows, notes ++ ns, A1, A3, c1, c3, by go_num, hlt, HAF.out, Lib.hid (by rw [hf2]; exact HNX.out), HBF.out, by omega, by rw [List.length_append]; omega⟩
                  case measure => simp [intOf]; omega
                · have hc0 : 0 < cells.length := List.length_pos_iff.2 hce
                  have hc1 : (0 : Int) < cells.length := by omega
                  have HNX : Hid (qdocGo q (l.map Prod.fst) f (i + 1) (rows.map Prod.fst ++ [(p.set, cells)]) (notes.map Prod.fst ++ ns.map Prod.fst) = res) := Lib.hid (by
                    have h := tg_next HTG.out HTF.out
                    rw [if_neg hce] at h
                    exact h)
                  clear hce
                  have HPF := Lib.hid (HP.out.below (HBF.out.mono hKP))
                  obtain ⟨ad1, hA1, hadK, gf0, _⟩ := ps_cells HPF.out.sr hlt
                  cases hA1
                  have hst9 := HPF.out.st l[i] (List.getElem_mem hlt)
                  rw [← HXE.out] at gf0 hst9
                  simp only at gf0 hst9
                  have hi1 : (i : Int) < l.length := by omega
                  have hKW := Lib.hid hK3
                  have hKb9 := Lib.hid hbK
                  have hrl9 : Hid (rows.length ≤ 65536) := Lib.hid (by omega)
                  have HG0 : Hid (Gd w3 false w3 K KP b A1 A3 c1 c3 (ad.add (i * 8)) a2 d2 CA cc p.set cells rows (notes ++ ns)) := Lib.hid ⟨hst9, gf0, by rw [add_block]; exact hadK, Nat.le_refl _, Below.refl _ _, HAF.out.bx, HAF.out.pw, HCF.out, fun g e => (HAF.out.rg.so.lt g e).2, hK3, hKP, fun _ => HAF.out.rg⟩
                  clear gf0 hst9 hadK
                  go_upto_region 26 with fail
                  apply region_GS (HD p.set cells a2 d2 CA cc K KP rows w3.heap.size) (fun fl wx => Gd w3 fl wx K KP b A1 A3 c1 c3 (ad.add (i * 8)) a2 d2 CA cc p.set cells rows (notes ++ ns)) (fun wx => TellD w3 wx K KP b A3 c3 a2 d2 CA cc p.set cells rows (notes ++ ns)) 10 12 [.v (.pointer (some ⟨b, 0, none⟩)), .v (.slice A1 rows.length c1), .v (.slice (some ad) l.length cap), .v (.int .i64 i), .v (.pointer (some (ad.add (i * 8)))), .v (.pointer (some (ad.add (i * 8)))), .v (.slice a2 p.set.length d2), .v (.slice CA cells.length cc), .v (.agg #[.slice a2 p.set.length d2, .slice CA cells.length cc]), .li, .ap, .v (.pointer (some ⟨b, 0, none⟩)), .v undef] (.v undef)
                  case hl => kernel_rfl
                  case hm => kernel_rfl
                  case hf => kernel_rfl
                  case hp => kernel_rfl
                  case hQ => exact (by intro c x y w e h; exact And.intro (e.symm.trans (And.left h)) (And.right h))
                  case hF => intro vs; simp only [putAll, Act.put, List.setIfInBounds_toArray, List.set_cons_zero, List.set_cons_succ, Nat.reduceAdd]; rfl
                  case h0 => exact HG0.out.below ⟨rfl, rfl, rfl, Nat.le_refl _, fun _ _ => rfl⟩
                  case hstep =>
                    repeat' (first | exact AllOps.nil | apply AllOps.cons)
                    · intro vs yb wx hG hd hbp hbn K9 hK
                      replace hK : ∀ (uu : Value) (w' : World), ((fun fl wx => Gd w3 fl wx K KP b A1 A3 c1 c3 (ad.add (i * 8)) a2 d2 CA cc p.set cells rows (notes ++ ns))) yb w' → (∀ j u, Nat.beq j 0 = false → (HD p.set cells a2 d2 CA cc K KP rows w3.heap.size) (([.v (.pointer (some ⟨b, 0, none⟩)), .v (.slice A1 rows.length c1), .v (.slice (some ad) l.length cap), .v (.int .i64 i), .v (.pointer (some (ad.add (i * 8)))), .v (.pointer (some (ad.add (i * 8)))), .v (.slice a2 p.set.length d2), .v (.slice CA cells.length cc), .v (.agg #[.slice a2 p.set.length d2, .slice CA cells.length cc]), .li, .ap, .v (.pointer (some ⟨b, 0, none⟩)), .v undef] : List _).getD j (.v undef)) u wx → (HD p.set cells a2 d2 CA cc K KP rows w3.heap.size) (([.v (.pointer (some ⟨b, 0, none⟩)), .v (.slice A1 rows.length c1), .v (.slice (some ad) l.length cap), .v (.int .i64 i), .v (.pointer (some (ad.add (i * 8)))), .v (.pointer (some (ad.add (i * 8)))), .v (.slice a2 p.set.length d2), .v (.slice CA cells.length cc), .v (.agg #[.slice a2 p.set.length d2, .slice CA cells.length cc]), .li, .ap, .v (.pointer (some ⟨b, 0, none⟩)), .v undef] : List _).getD j (.v undef)) u w') → (HD p.set cells a2 d2 CA cc K KP rows w3.heap.size) (.v (.pointer (some ⟨b, 0, none⟩))) uu w' → K9 _ w' := hK
                      simp only [Act.put, List.setIfInBounds_toArray, List.set_cons_zero, List.set_cons_succ] at hK ⊢
                      have HK := Lib.hid hK
                      have HG := Lib.hid hG
                      clear hK hd
                      clear hG hbp hbn
                      go_simp
                      exact HK.out _ _ HG.out (fun _ _ _ h9 => h9) rfl
                    · intro vs yb wx hG hd hbp hbn K9 hK
                      have e0 : vs 0 = .pointer (some ⟨b, 0, none⟩) := hd.get (j := 0) (by simp [depsOf, Region.binds])
                      replace hK : ∀ (uu : Value) (w' : World), ((fun fl wx => Gd w3 fl wx K KP b A1 A3 c1 c3 (ad.add (i * 8)) a2 d2 CA cc p.set cells rows (notes ++ ns))) yb w' → (∀ j u, Nat.beq j 1 = false → (HD p.set cells a2 d2 CA cc K KP rows w3.heap.size) (([.v (.pointer (some ⟨b, 0, none⟩)), .v (.slice A1 rows.length c1), .v (.slice (some ad) l.length cap), .v (.int .i64 i), .v (.pointer (some (ad.add (i * 8)))), .v (.pointer (some (ad.add (i * 8)))), .v (.slice a2 p.set.length d2), .v (.slice CA cells.length cc), .v (.agg #[.slice a2 p.set.length d2, .slice CA cells.length cc]), .li, .ap, .v (.pointer (some ⟨b, 0, none⟩)), .v undef] : List _).getD j (.v undef)) u wx → (HD p.set cells a2 d2 CA cc K KP rows w3.heap.size) (([.v (.pointer (some ⟨b, 0, none⟩)), .v (.slice A1 rows.length c1), .v (.slice (some ad) l.length cap), .v (.int .i64 i), .v (.pointer (some (ad.add (i * 8)))), .v (.pointer (some (ad.add (i * 8)))), .v (.slice a2 p.set.length d2), .v (.slice CA cells.length cc), .v (.agg #[.slice a2 p.set.length d2, .slice CA cells.length cc]), .li, .ap, .v (.pointer (some ⟨b, 0, none⟩)), .v undef] : List _).getD j (.v undef)) u w') → (HD p.set cells a2 d2 CA cc K KP rows w3.heap.size) (.v (.slice A1 rows.length c1)) uu w' → K9 _ w' := hK
                      simp only [Act.put, List.setIfInBounds_toArray, List.set_cons_zero, List.set_cons_succ, e0] at hK ⊢
                      have HK := Lib.hid hK
                      have HG := Lib.hid hG
                      clear hK hd e0
                      have pc0 := HG.out.pc
                      have q0 : wx.cell? ⟨b, 0, none⟩ = some (.slice A1 rows.length c1) := HG.out.bx.cell rfl
                      clear hG hbp hbn
                      go_simp
                      exact HK.out _ _ HG.out (fun _ _ _ h9 => h9) rfl
                    · intro vs yb wx hG hd hbp hbn K9 hK
                      replace hK : ∀ (uu : Value) (w' : World), ((fun fl wx => Gd w3 fl wx K KP b A1 A3 c1 c3 (ad.add (i * 8)) a2 d2 CA cc p.set cells rows (notes ++ ns))) yb w' → (∀ j u, Nat.beq j 2 = false → (HD p.set cells a2 d2 CA cc K KP rows w3.heap.size) (([.v (.pointer (some ⟨b, 0, none⟩)), .v (.slice A1 rows.length c1), .v (.slice (some ad) l.length cap), .v (.int .i64 i), .v (.pointer (some (ad.add (i * 8)))), .v (.pointer (some (ad.add (i * 8)))), .v (.slice a2 p.set.length d2), .v (.slice CA cells.length cc), .v (.agg #[.slice a2 p.set.length d2, .slice CA cells.length cc]), .li, .ap, .v (.pointer (some ⟨b, 0, none⟩)), .v undef] : List _).getD j (.v undef)) u wx → (HD p.set cells a2 d2 CA cc K KP rows w3.heap.size) (([.v (.pointer (some ⟨b, 0, none⟩)), .v (.slice A1 rows.length c1), .v (.slice (some ad) l.length cap), .v (.int .i64 i), .v (.pointer (some (ad.add (i * 8)))), .v (.pointer (some (ad.add (i * 8)))), .v (.slice a2 p.set.length d2), .v (.slice CA cells.length cc), .v (.agg #[.slice a2 p.set.length d2, .slice CA cells.length cc]), .li, .ap, .v (.pointer (some ⟨b, 0, none⟩)), .v undef] : List _).getD j (.v undef)) u w') → (HD p.set cells a2 d2 CA cc K KP rows w3.heap.size) (.v (.slice (some ad) l.length cap)) uu w' → K9 _ w' := hK
                      simp only [Act.put, List.setIfInBounds_toArray, List.set_cons_zero, List.set_cons_succ] at hK ⊢
                      have HK := Lib.hid hK
                      have HG := Lib.hid hG
                      clear hK hd
                      clear hG hbp hbn
                      go_simp
                      exact HK.out _ _ HG.out (fun _ _ _ h9 => h9) rfl
                    · intro vs yb wx hG hd hbp hbn K9 hK
                      replace hK : ∀ (uu : Value) (w' : World), ((fun fl wx => Gd w3 fl wx K KP b A1 A3 c1 c3 (ad.add (i * 8)) a2 d2 CA cc p.set cells rows (notes ++ ns))) yb w' → (∀ j u, Nat.beq j 3 = false → (HD p.set cells a2 d2 CA cc K KP rows w3.heap.size) (([.v (.pointer (some ⟨b, 0, none⟩)), .v (.slice A1 rows.length c1), .v (.slice (some ad) l.length cap), .v (.int .i64 i), .v (.pointer (some (ad.add (i * 8)))), .v (.pointer (some (ad.add (i * 8)))), .v (.slice a2 p.set.length d2), .v (.slice CA cells.length cc), .v (.agg #[.slice a2 p.set.length d2, .slice CA cells.length cc]), .li, .ap, .v (.pointer (some ⟨b, 0, none⟩)), .v undef] : List _).getD j (.v undef)) u wx → (HD p.set cells a2 d2 CA cc K KP rows w3.heap.size) (([.v (.pointer (some ⟨b, 0, none⟩)), .v (.slice A1 rows.length c1), .v (.slice (some ad) l.length cap), .v (.int .i64 i), .v (.pointer (some (ad.add (i * 8)))), .v (.pointer (some (ad.add (i * 8)))), .v (.slice a2 p.set.length d2), .v (.slice CA cells.length cc), .v (.agg #[.slice a2 p.set.length d2, .slice CA cells.length cc]), .li, .ap, .v (.pointer (some ⟨b, 0, none⟩)), .v undef] : List _).getD j (.v undef)) u w') → (HD p.set cells a2 d2 CA cc K KP rows w3.heap.size) (.v (.int .i64 i)) uu w' → K9 _ w' := hK
                      simp only [Act.put, List.setIfInBounds_toArray, List.set_cons_zero, List.set_cons_succ] at hK ⊢
                      have HK := Lib.hid hK
                      have HG := Lib.hid hG
                      clear hK hd
                      clear hG hbp hbn
                      go_simp
                      exact HK.out _ _ HG.out (fun _ _ _ h9 => h9) rfl
                    · intro vs yb wx hG hd hbp hbn K9 hK
                      have e2 : vs 2 = .slice (some ad) l.length cap := hd.get (j := 2) (by simp [depsOf, Region.binds])
                      have e3 : vs 3 = .int .i64 i := hd.get (j := 3) (by simp [depsOf, Region.binds])
                      replace hK : ∀ (uu : Value) (w' : World), ((fun fl wx => Gd w3 fl wx K KP b A1 A3 c1 c3 (ad.add (i * 8)) a2 d2 CA cc p.set cells rows (notes ++ ns))) yb w' → (∀ j u, Nat.beq j 4 = false → (HD p.set cells a2 d2 CA cc K KP rows w3.heap.size) (([.v (.pointer (some ⟨b, 0, none⟩)), .v (.slice A1 rows.length c1), .v (.slice (some ad) l.length cap), .v (.int .i64 i), .v (.pointer (some (ad.add (i * 8)))), .v (.pointer (some (ad.add (i * 8)))), .v (.slice a2 p.set.length d2), .v (.slice CA cells.length cc), .v (.agg #[.slice a2 p.set.length d2, .slice CA cells.length cc]), .li, .ap, .v (.pointer (some ⟨b, 0, none⟩)), .v undef] : List _).getD j (.v undef)) u wx → (HD p.set cells a2 d2 CA cc K KP rows w3.heap.size) (([.v (.pointer (some ⟨b, 0, none⟩)), .v (.slice A1 rows.length c1), .v (.slice (some ad) l.length cap), .v (.int .i64 i), .v (.pointer (some (ad.add (i * 8)))), .v (.pointer (some (ad.add (i * 8)))), .v (.slice a2 p.set.length d2), .v (.slice CA cells.length cc), .v (.agg #[.slice a2 p.set.length d2, .slice CA cells.length cc]), .li, .ap, .v (.pointer (some ⟨b, 0, none⟩)), .v undef] : List _).getD j (.v undef)) u w') → (HD p.set cells a2 d2 CA cc K KP rows w3.heap.size) (.v (.pointer (some (ad.add (i * 8))))) uu w' → K9 _ w' := hK
                      simp only [Act.put, List.setIfInBounds_toArray, List.set_cons_zero, List.set_cons_succ, e2, e3] at hK ⊢
                      have HK := Lib.hid hK
                      have HG := Lib.hid hG
                      clear hK hd e2 e3
                      clear hG hbp hbn
                      go_simp
                      exact HK.out _ _ HG.out (fun _ _ _ h9 => h9) rfl
                    · intro vs yb wx hG hd hbp hbn K9 hK
                      have e4 : vs 4 = .pointer (some (ad.add (i * 8))) := hd.get (j := 4) (by simp [depsOf, Region.binds])
                      replace hK : ∀ (uu : Value) (w' : World), ((fun fl wx => Gd w3 fl wx K KP b A1 A3 c1 c3 (ad.add (i * 8)) a2 d2 CA cc p.set cells rows (notes ++ ns))) yb w' → (∀ j u, Nat.beq j 5 = false → (HD p.set cells a2 d2 CA cc K KP rows w3.heap.size) (([.v (.pointer (some ⟨b, 0, none⟩)), .v (.slice A1 rows.length c1), .v (.slice (some ad) l.length cap), .v (.int .i64 i), .v (.pointer (some (ad.add (i * 8)))), .v (.pointer (some (ad.add (i * 8)))), .v (.slice a2 p.set.length d2), .v (.slice CA cells.length cc), .v (.agg #[.slice a2 p.set.length d2, .slice CA cells.length cc]), .li, .ap, .v (.pointer (some ⟨b, 0, none⟩)), .v undef] : List _).getD j (.v undef)) u wx → (HD p.set cells a2 d2 CA cc K KP rows w3.heap.size) (([.v (.pointer (some ⟨b, 0, none⟩)), .v (.slice A1 rows.length c1), .v (.slice (some ad) l.length cap), .v (.int .i64 i), .v (.pointer (some (ad.add (i * 8)))), .v (.pointer (some (ad.add (i * 8)))), .v (.slice a2 p.set.length d2), .v (.slice CA cells.length cc), .v (.agg #[.slice a2 p.set.length d2, .slice CA cells.length cc]), .li, .ap, .v (.pointer (some ⟨b, 0, none⟩)), .v undef] : List _).getD j (.v undef)) u w') → (HD p.set cells a2 d2 CA cc K KP rows w3.heap.size) (.v (.pointer (some (ad.add (i * 8))))) uu w' → K9 _ w' := hK
                      simp only [Act.put, List.setIfInBounds_toArray, List.set_cons_zero, List.set_cons_succ, e4] at hK ⊢
                      have HK := Lib.hid hK
                      have HG := Lib.hid hG
                      clear hK hd e4
                      clear hG hbp hbn
                      go_simp
                      exact HK.out _ _ HG.out (fun _ _ _ h9 => h9) rfl
                    · intro vs yb wx hG hd hbp hbn K9 hK
                      have e5 : vs 5 = .pointer (some (ad.add (i * 8))) := hd.get (j := 5) (by simp [depsOf, Region.binds])
                      replace hK : ∀ (uu : Value) (w' : World), ((fun fl wx => Gd w3 fl wx K KP b A1 A3 c1 c3 (ad.add (i * 8)) a2 d2 CA cc p.set cells rows (notes ++ ns))) yb w' → (∀ j u, Nat.beq j 6 = false → (HD p.set cells a2 d2 CA cc K KP rows w3.heap.size) (([.v (.pointer (some ⟨b, 0, none⟩)), .v (.slice A1 rows.length c1), .v (.slice (some ad) l.length cap), .v (.int .i64 i), .v (.pointer (some (ad.add (i * 8)))), .v (.pointer (some (ad.add (i * 8)))), .v (.slice a2 p.set.length d2), .v (.slice CA cells.length cc), .v (.agg #[.slice a2 p.set.length d2, .slice CA cells.length cc]), .li, .ap, .v (.pointer (some ⟨b, 0, none⟩)), .v undef] : List _).getD j (.v undef)) u wx → (HD p.set cells a2 d2 CA cc K KP rows w3.heap.size) (([.v (.pointer (some ⟨b, 0, none⟩)), .v (.slice A1 rows.length c1), .v (.slice (some ad) l.length cap), .v (.int .i64 i), .v (.pointer (some (ad.add (i * 8)))), .v (.pointer (some (ad.add (i * 8)))), .v (.slice a2 p.set.length d2), .v (.slice CA cells.length cc), .v (.agg #[.slice a2 p.set.length d2, .slice CA cells.length cc]), .li, .ap, .v (.pointer (some ⟨b, 0, none⟩)), .v undef] : List _).getD j (.v undef)) u w') → (HD p.set cells a2 d2 CA cc K KP rows w3.heap.size) (.v (.slice a2 p.set.length d2)) uu w' → K9 _ w' := hK
                      simp only [Act.put, List.setIfInBounds_toArray, List.set_cons_zero, List.set_cons_succ, e5] at hK ⊢
                      have HK := Lib.hid hK
                      have HG := Lib.hid hG
                      clear hK hd e5
                      have pc0 := HG.out.pc
                      have q0 : wx.cell? ⟨b, 0, none⟩ = some (.slice A1 rows.length c1) := HG.out.bx.cell rfl
                      clear hG hbp hbn
                      go_simp
                      exact HK.out _ _ HG.out (fun _ _ _ h9 => h9) rfl
                    · intro vs yb wx hG hd hbp hbn K9 hK
                      replace hK : ∀ (uu : Value) (w' : World), ((fun fl wx => Gd w3 fl wx K KP b A1 A3 c1 c3 (ad.add (i * 8)) a2 d2 CA cc p.set cells rows (notes ++ ns))) yb w' → (∀ j u, Nat.beq j 7 = false → (HD p.set cells a2 d2 CA cc K KP rows w3.heap.size) (([.v (.pointer (some ⟨b, 0, none⟩)), .v (.slice A1 rows.length c1), .v (.slice (some ad) l.length cap), .v (.int .i64 i), .v (.pointer (some (ad.add (i * 8)))), .v (.pointer (some (ad.add (i * 8)))), .v (.slice a2 p.set.length d2), .v (.slice CA cells.length cc), .v (.agg #[.slice a2 p.set.length d2, .slice CA cells.length cc]), .li, .ap, .v (.pointer (some ⟨b, 0, none⟩)), .v undef] : List _).getD j (.v undef)) u wx → (HD p.set cells a2 d2 CA cc K KP rows w3.heap.size) (([.v (.pointer (some ⟨b, 0, none⟩)), .v (.slice A1 rows.length c1), .v (.slice (some ad) l.length cap), .v (.int .i64 i), .v (.pointer (some (ad.add (i * 8)))), .v (.pointer (some (ad.add (i * 8)))), .v (.slice a2 p.set.length d2), .v (.slice CA cells.length cc), .v (.agg #[.slice a2 p.set.length d2, .slice CA cells.length cc]), .li, .ap, .v (.pointer (some ⟨b, 0, none⟩)), .v undef] : List _).getD j (.v undef)) u w') → (HD p.set cells a2 d2 CA cc K KP rows w3.heap.size) (.v (.slice CA cells.length cc)) uu w' → K9 _ w' := hK
                      simp only [Act.put, List.setIfInBounds_toArray, List.set_cons_zero, List.set_cons_succ] at hK ⊢
                      have HK := Lib.hid hK
                      have HG := Lib.hid hG
                      clear hK hd
                      clear hG hbp hbn
                      go_simp
                      exact HK.out _ _ HG.out (fun _ _ _ h9 => h9) rfl
                    · intro vs yb wx hG hd hbp hbn K9 hK
                      have e6 : vs 6 = .slice a2 p.set.length d2 := hd.get (j := 6) (by simp [depsOf, Region.binds])
                      have e7 : vs 7 = .slice CA cells.length cc := hd.get (j := 7) (by simp [depsOf, Region.binds])
                      replace hK : ∀ (uu : Value) (w' : World), ((fun fl wx => Gd w3 fl wx K KP b A1 A3 c1 c3 (ad.add (i * 8)) a2 d2 CA cc p.set cells rows (notes ++ ns))) yb w' → (∀ j u, Nat.beq j 8 = false → (HD p.set cells a2 d2 CA cc K KP rows w3.heap.size) (([.v (.pointer (some ⟨b, 0, none⟩)), .v (.slice A1 rows.length c1), .v (.slice (some ad) l.length cap), .v (.int .i64 i), .v (.pointer (some (ad.add (i * 8)))), .v (.pointer (some (ad.add (i * 8)))), .v (.slice a2 p.set.length d2), .v (.slice CA cells.length cc), .v (.agg #[.slice a2 p.set.length d2, .slice CA cells.length cc]), .li, .ap, .v (.pointer (some ⟨b, 0, none⟩)), .v undef] : List _).getD j (.v undef)) u wx → (HD p.set cells a2 d2 CA cc K KP rows w3.heap.size) (([.v (.pointer (some ⟨b, 0, none⟩)), .v (.slice A1 rows.length c1), .v (.slice (some ad) l.length cap), .v (.int .i64 i), .v (.pointer (some (ad.add (i * 8)))), .v (.pointer (some (ad.add (i * 8)))), .v (.slice a2 p.set.length d2), .v (.slice CA cells.length cc), .v (.agg #[.slice a2 p.set.length d2, .slice CA cells.length cc]), .li, .ap, .v (.pointer (some ⟨b, 0, none⟩)), .v undef] : List _).getD j (.v undef)) u w') → (HD p.set cells a2 d2 CA cc K KP rows w3.heap.size) (.v (.agg #[.slice a2 p.set.length d2, .slice CA cells.length cc])) uu w' → K9 _ w' := hK
                      simp only [Act.put, List.setIfInBounds_toArray, List.set_cons_zero, List.set_cons_succ, e6, e7] at hK ⊢
                      have HK := Lib.hid hK
                      have HG := Lib.hid hG
                      clear hK hd e6 e7
                      clear hG hbp hbn
                      go_simp
                      exact HK.out _ _ HG.out (fun _ _ _ h9 => h9) rfl
                    · intro vs yb wx hG hd hbp hbn K9 hK
                      have e8 : vs 8 = .agg #[.slice a2 p.set.length d2, .slice CA cells.length cc] := hd.get (j := 8) (by simp [depsOf, Region.binds])
                      replace hK : ∀ (uu : Value) (w' : World), ((fun fl wx => Gd w3 fl wx K KP b A1 A3 c1 c3 (ad.add (i * 8)) a2 d2 CA cc p.set cells rows (notes ++ ns))) yb w' → (∀ j u, Nat.beq j 9 = false → (HD p.set cells a2 d2 CA cc K KP rows w3.heap.size) (([.v (.pointer (some ⟨b, 0, none⟩)), .v (.slice A1 rows.length c1), .v (.slice (some ad) l.length cap), .v (.int .i64 i), .v (.pointer (some (ad.add (i * 8)))), .v (.pointer (some (ad.add (i * 8)))), .v (.slice a2 p.set.length d2), .v (.slice CA cells.length cc), .v (.agg #[.slice a2 p.set.length d2, .slice CA cells.length cc]), .li, .ap, .v (.pointer (some ⟨b, 0, none⟩)), .v undef] : List _).getD j (.v undef)) u wx → (HD p.set cells a2 d2 CA cc K KP rows w3.heap.size) (([.v (.pointer (some ⟨b, 0, none⟩)), .v (.slice A1 rows.length c1), .v (.slice (some ad) l.length cap), .v (.int .i64 i), .v (.pointer (some (ad.add (i * 8)))), .v (.pointer (some (ad.add (i * 8)))), .v (.slice a2 p.set.length d2), .v (.slice CA cells.length cc), .v (.agg #[.slice a2 p.set.length d2, .slice CA cells.length cc]), .li, .ap, .v (.pointer (some ⟨b, 0, none⟩)), .v undef] : List _).getD j (.v undef)) u w') → (HD p.set cells a2 d2 CA cc K KP rows w3.heap.size) (.li) uu w' → K9 _ w' := hK
                      simp only [Act.put, List.setIfInBounds_toArray, List.set_cons_zero, List.set_cons_succ, e8] at hK ⊢
                      have HK := Lib.hid hK
                      have HG := Lib.hid hG
                      clear hK hd e8
                      have HS := Lib.hid (HG.out.sz)
                      clear hG
                      go_simp
                      have hb : Below wx.heap.size wx (wx.alloc (.cells #[.slice a2 p.set.length d2, .slice CA cells.length cc] 87)) := (Below.refl _ _).alloc (Nat.le_refl _) _
                      exact HK.out _ _ (HG.out.below hb) (fun j u _ h9 => HD.mono h9 hb) ⟨wx.heap.size, rfl, HS.out, heap_alloc_new wx _⟩
                    · intro vs yb wx hG hd hbp hbn K9 hK
                      have e1 : vs 1 = .slice A1 rows.length c1 := hd.get (j := 1) (by simp [depsOf, Region.binds])
                      obtain ⟨g9, e9, f9, h9⟩ : ∃ g, vs 9 = .slice (some ⟨g, 0, none⟩) 1 1 ∧ w3.heap.size ≤ g ∧ wx.heap[g]? = some (.cells #[.slice a2 p.set.length d2, .slice CA cells.length cc] 87) := hd.get (j := 9) (by simp [depsOf, Region.binds])
                      replace hK : ∀ (uu : Value) (w' : World), ((fun fl wx => Gd w3 fl wx K KP b A1 A3 c1 c3 (ad.add (i * 8)) a2 d2 CA cc p.set cells rows (notes ++ ns))) true w' → (∀ j u, Nat.beq j 10 = false → (HD p.set cells a2 d2 CA cc K KP rows w3.heap.size) (([.v (.pointer (some ⟨b, 0, none⟩)), .v (.slice A1 rows.length c1), .v (.slice (some ad) l.length cap), .v (.int .i64 i), .v (.pointer (some (ad.add (i * 8)))), .v (.pointer (some (ad.add (i * 8)))), .v (.slice a2 p.set.length d2), .v (.slice CA cells.length cc), .v (.agg #[.slice a2 p.set.length d2, .slice CA cells.length cc]), .li, .ap, .v (.pointer (some ⟨b, 0, none⟩)), .v undef] : List _).getD j (.v undef)) u wx → (HD p.set cells a2 d2 CA cc K KP rows w3.heap.size) (([.v (.pointer (some ⟨b, 0, none⟩)), .v (.slice A1 rows.length c1), .v (.slice (some ad) l.length cap), .v (.int .i64 i), .v (.pointer (some (ad.add (i * 8)))), .v (.pointer (some (ad.add (i * 8)))), .v (.slice a2 p.set.length d2), .v (.slice CA cells.length cc), .v (.agg #[.slice a2 p.set.length d2, .slice CA cells.length cc]), .li, .ap, .v (.pointer (some ⟨b, 0, none⟩)), .v undef] : List _).getD j (.v undef)) u w') → (HD p.set cells a2 d2 CA cc K KP rows w3.heap.size) (.ap) uu w' → K9 _ w' := hK
                      simp only [Act.put, List.setIfInBounds_toArray, List.set_cons_zero, List.set_cons_succ, e1, e9] at hK ⊢
                      have HK := Lib.hid hK
                      have HG := Lib.hid hG
                      clear hK hd e1 e9
                      have hyb : yb = false := hbp rfl
                      subst hyb
                      have hrg := HG.out.rg rfl
                      have hsz := HG.out.sz
                      have hce := HG.out.ce
                      have hls := HG.out.ls
                      have hsr : Sr encRz 2 wx wx.heap.size (some ⟨g9, 0, none⟩) 1 [(((p.set, cells), (a2, d2), (CA, cc)) : Rz)] := sr_lit h9 rfl
                      clear hG
                      apply step_appE Tryz.underlying40 info_drow rfl (by decide) encRz_len encRz_one (K := K) (v := .slice A1 rows.length c1) (l := rows) (A := some ⟨g9, 0, none⟩) (cap := 1) (m := [(((p.set, cells), (a2, d2), (CA, cc)) : Rz)]) (K' := wx.heap.size) (s := .tmp 149) (x := .tmp 157)
                      case hgd => rfl
                      case ho => rfl
                      case hs => rfl
                      case hx => rfl
                      case hown => exact hrg.so
                      case hsrc => exact hsr
                      case hm => unfold maxLen; have := hrl9.out; simp only [List.length_singleton]; omega
                      case hsz => have := hrl9.out; simp only [List.length_singleton]; omega
                      case hbase => exact Nat.le_trans hKW.out hsz
                      intro A5 c5 w5 so5 hg5
                      have so6 : So encRz 2 w5 K 87 (.slice A5 (rows.length + 1) c5) (rows ++ [(((p.set, cells), (a2, d2), (CA, cc)) : Rz)]) := so5
                      have hkw : K ≤ wx.heap.size := Nat.le_trans hKW.out hsz
                      have hk := hrg.push (r := (((p.set, cells), (a2, d2), (CA, cc)) : Rz)) hls hce hg5 so6 HG.out.hp hkw
                      have hlt9 : ∀ g, (Value.slice A1 rows.length c1).ownBlock = some g → g < w3.heap.size := HG.out.lt
                      have hb5 : Below K wx w5 := grown_belowE (Below.refl _ _) hg5 hkw (fun _ e => (hrg.so.lt _ e).1)
                      have hkp5 : KP ≤ w5.heap.size := Nat.le_trans (Nat.le_trans HG.out.hp hkw) hb5.size
                      simp only [Act.put, List.setIfInBounds_toArray, List.set_cons_zero, List.set_cons_succ]
                      exact HK.out _ _ (HG.out.app hrg.so hg5) (fun j u hj h9 => HD.grown (telld_ne j hj) h9 hg5 hlt9) ⟨A5, c5, rfl, hkp5, hk⟩
                    · intro vs yb wx hG hd hbp hbn K9 hK
                      replace hK : ∀ (uu : Value) (w' : World), ((fun fl wx => Gd w3 fl wx K KP b A1 A3 c1 c3 (ad.add (i * 8)) a2 d2 CA cc p.set cells rows (notes ++ ns))) yb w' → (∀ j u, Nat.beq j 11 = false → (HD p.set cells a2 d2 CA cc K KP rows w3.heap.size) (([.v (.pointer (some ⟨b, 0, none⟩)), .v (.slice A1 rows.length c1), .v (.slice (some ad) l.length cap), .v (.int .i64 i), .v (.pointer (some (ad.add (i * 8)))), .v (.pointer (some (ad.add (i * 8)))), .v (.slice a2 p.set.length d2), .v (.slice CA cells.length cc), .v (.agg #[.slice a2 p.set.length d2, .slice CA cells.length cc]), .li, .ap, .v (.pointer (some ⟨b, 0, none⟩)), .v undef] : List _).getD j (.v undef)) u wx → (HD p.set cells a2 d2 CA cc K KP rows w3.heap.size) (([.v (.pointer (some ⟨b, 0, none⟩)), .v (.slice A1 rows.length c1), .v (.slice (some ad) l.length cap), .v (.int .i64 i), .v (.pointer (some (ad.add (i * 8)))), .v (.pointer (some (ad.add (i * 8)))), .v (.slice a2 p.set.length d2), .v (.slice CA cells.length cc), .v (.agg #[.slice a2 p.set.length d2, .slice CA cells.length cc]), .li, .ap, .v (.pointer (some ⟨b, 0, none⟩)), .v undef] : List _).getD j (.v undef)) u w') → (HD p.set cells a2 d2 CA cc K KP rows w3.heap.size) (.v (.pointer (some ⟨b, 0, none⟩))) uu w' → K9 _ w' := hK
                      simp only [Act.put, List.setIfInBounds_toArray, List.set_cons_zero, List.set_cons_succ] at hK ⊢
                      have HK := Lib.hid hK
                      have HG := Lib.hid hG
                      clear hK hd
                      clear hG hbp hbn
                      go_simp
                      exact HK.out _ _ HG.out (fun _ _ _ h9 => h9) rfl
                    · intro vs yb wx hG hd hbp hbn K9 hK
                      obtain ⟨A10, d10, e10, k10, r10⟩ : ∃ (A' : Option Addr) (c' : Nat), vs 10 = .slice A' (rows.length + 1) c' ∧ KP ≤ wx.heap.size ∧ Rd9 wx K KP (.slice A' (rows.length + 1) c') (rows ++ [((p.set, cells), (a2, d2), (CA, cc))]) := hd.get (j := 10) (by simp [depsOf, Region.binds])
                      have e11 : vs 11 = .pointer (some ⟨b, 0, none⟩) := hd.get (j := 11) (by simp [depsOf, Region.binds])
                      replace hK : ∀ (uu : Value) (w' : World), ((fun wx => TellD w3 wx K KP b A3 c3 a2 d2 CA cc p.set cells rows (notes ++ ns))) w' → K9 _ w' := hK
                      simp only [Act.put, e10, e11] at hK ⊢
                      have HK := Lib.hid hK
                      have HG := Lib.hid hG
                      clear hK hd e10 e11
                      have hbx := HG.out.bx
                      have q0 : wx.cell? ⟨b, 0, none⟩ = some (.slice A1 rows.length c1) := hbx.cell rfl
                      have qf := hbx.fr 0
                      have ql := hbx.lt
                      have HF := Lib.hid (HG.out.fin hKb9.out r10)
                      clear hG hbx
                      go_simp
                      exact HK.out undef _ HF.out
                  case hend =>
                    intro vs wx hE
                    obtain ⟨A9, c9, ha9, hb9⟩ := hE
                    have HA9 := Lib.hid ha9
                    have HB9 := Lib.hid (HBF.out.trans hb9)
                    clear ha9 hb9
                    go_wp2_with fail
                    go_roundw
                    case rel => exact ⟨i + 1, rows ++ [((p.set, cells), (a2, d2), (CA, cc))], notes ++ ns, A9, A3, c9, c3, by go_num, hlt, HA9.out, Lib.hid (by rw [hf2]; rw [List.map_append, List.map_append]; exact HNX.out), HB9.out, by rw [List.length_append]; simp; exact hrl, by rw [List.length_append]; omega⟩
                    case measure => simp [intOf]; omega
              · have e0 : (q.op == (0 : Int)) = false := by simpa using ho
                have HW := Lib.hid (rwindows_any q.op W7.heap.size A8 sm.length c8 sm q.fr q.to_ q.st W7 rfl (So.sr encSm_len H87.out).1 (Nat.le_refl _) HSOK.out h2)
                have HCQ : Hid (cellsQ q sm = rwinB q.op sm q.fr q.to_ q.st) := Lib.hid ((if_neg ho).trans (windows_same HSRT.out))
                rw [HCQ.out] at HT
                generalize rwinB q.op sm q.fr q.to_ q.st = P at HT HW
                obtain ⟨er, cells⟩ := P
                simp only at HT
                clear ho HCQ
                go_wp2_with fail
                refine HW.out.mono ?_
                rintro e w3 ⟨CA, cc, rfl, so3, b3⟩
                have HBF := Lib.hid (HB7.out.trans (b3.mono hK7))
                have HAF := Lib.hid (HA7.out.below b3 (Nat.le_trans hKP hK7))
                have HCF := Lib.hid (so3.more hK7)
                clear so3 b3 q0 q1 q2 q3 q4 q5 qz H87 H97 HA7 HW
                by_cases her : er = 0
                · subst her
                  have HTF : Hid (tellQ q (G.take (firstN G)) = (0, (if cells = [] then [] else [(p.set, cells)]), ns.map Prod.fst)) := Lib.hid (by rw [HT.out, if_neg (by simp)])
                  clear HT
                  have hK3 : K ≤ w3.heap.size := by have := HBF.out.size; omega
                  by_cases hce : cells = []
                  · subst hce
                    have HNX : Hid (qdocGo q (l.map Prod.fst) f (i + 1) (rows.map Prod.fst) ((notes ++ ns).map Prod.fst) = res) := Lib.hid (by
                      have h := tg_next HTG.out HTF.out
                      rw [if_pos rfl, List.append_nil] at h
                      rw [List.map_append]
                      exact h)
                    go_wp2_with fail
                    go_roundw
                    case rel => exact ⟨i + 1, rows, notes ++ ns, A1, A3, c1, c3, by go_num, hlt, HAF.out, Lib.hid (by rw [hf2]; exact HNX.out), HBF.out, by omega, by rw [List.length_append]; omega⟩
                    case measure => simp [intOf]; omega
                  · have hc0 : 0 < cells.length := List.length_pos_iff.2 hce
                    have hc1 : (0 : Int) < cells.length := by omega
                    have HNX : Hid (qdocGo q (l.map Prod.fst) f (i + 1) (rows.map Prod.fst ++ [(p.set, cells)]) (notes.map Prod.fst ++ ns.map Prod.fst) = res) := Lib.hid (by
                      have h := tg_next HTG.out HTF.out
                      rw [if_neg hce] at h
                      exact h)
                    clear hce
                    have HPF := Lib.hid (HP.out.below (HBF.out.mono hKP))
                    obtain ⟨ad1, hA1, hadK, gf0, _⟩ := ps_cells HPF.out.sr hlt
                    cases hA1
                    have hst9 := HPF.out.st l[i] (List.getElem_mem hlt)
                    rw [← HXE.out] at gf0 hst9
                    simp only at gf0 hst9
                    have hi1 : (i : Int) < l.length := by omega
                    have hKW := Lib.hid hK3
                    have hKb9 := Lib.hid hbK
                    have hrl9 : Hid (rows.length ≤ 65536) := Lib.hid (by omega)
                    have HG0 : Hid (Gd w3 false w3 K KP b A1 A3 c1 c3 (ad.add (i * 8)) a2 d2 CA cc p.set cells rows (notes ++ ns)) := Lib.hid ⟨hst9, gf0, by rw [add_block]; exact hadK, Nat.le_refl _, Below.refl _ _, HAF.out.bx, HAF.out.pw, HCF.out, fun g e => (HAF.out.rg.so.lt g e).2, hK3, hKP, fun _ => HAF.out.rg⟩
                    clear gf0 hst9 hadK
                    go_upto_region 26 with fail
                    apply region_GS (HD p.set cells a2 d2 CA cc K KP rows w3.heap.size) (fun fl wx => Gd w3 fl wx K KP b A1 A3 c1 c3 (ad.add (i * 8)) a2 d2 CA cc p.set cells rows (notes ++ ns)) (fun wx => TellD w3 wx K KP b A3 c3 a2 d2 CA cc p.set cells rows (notes ++ ns)) 10 12 [.v (.pointer (some ⟨b, 0, none⟩)), .v (.slice A1 rows.length c1), .v (.slice (some ad) l.length cap), .v (.int .i64 i), .v (.pointer (some (ad.add (i * 8)))), .v (.pointer (some (ad.add (i * 8)))), .v (.slice a2 p.set.length d2), .v (.slice CA cells.length cc), .v (.agg #[.slice a2 p.set.length d2, .slice CA cells.length cc]), .li, .ap, .v (.pointer (some ⟨b, 0, none⟩)), .v undef] (.v undef)
                    case hl => kernel_rfl
                    case hm => kernel_rfl
                    case hf => kernel_rfl
                    case hp => kernel_rfl
                    case hQ => exact (by intro c x y w e h; exact And.intro (e.symm.trans (And.left h)) (And.right h))
                    case hF => intro vs; simp only [putAll, Act.put, List.setIfInBounds_toArray, List.set_cons_zero, List.set_cons_succ, Nat.reduceAdd]; rfl
                    case h0 => exact HG0.out.below ⟨rfl, rfl, rfl, Nat.le_refl _, fun _ _ => rfl⟩
                    case hstep =>
                      repeat' (first | exact AllOps.nil | apply AllOps.cons)
                      · intro vs yb wx hG hd hbp hbn K9 hK
                        replace hK : ∀ (uu : Value) (w' : World), ((fun fl wx => Gd w3 fl wx K KP b A1 A3 c1 c3 (ad.add (i * 8)) a2 d2 CA cc p.set cells rows (notes ++ ns))) yb w' → (∀ j u, Nat.beq j 0 = false → (HD p.set cells a2 d2 CA cc K KP rows w3.heap.size) (([.v (.pointer (some ⟨b, 0, none⟩)), .v (.slice A1 rows.length c1), .v (.slice (some ad) l.length cap), .v (.int .i64 i), .v (.pointer (some (ad.add (i * 8)))), .v (.pointer (some (ad.add (i * 8)))), .v (.slice a2 p.set.length d2), .v (.slice CA cells.length cc), .v (.agg #[.slice a2 p.set.length d2, .slice CA cells.length cc]), .li, .ap, .v (.pointer (some ⟨b, 0, none⟩)), .v undef] : List _).getD j (.v undef)) u wx → (HD p.set cells a2 d2 CA cc K KP rows w3.heap.size) (([.v (.pointer (some ⟨b, 0, none⟩)), .v (.slice A1 rows.length c1), .v (.slice (some ad) l.length cap), .v (.int .i64 i), .v (.pointer (some (ad.add (i * 8)))), .v (.pointer (some (ad.add (i * 8)))), .v (.slice a2 p.set.length d2), .v (.slice CA cells.length cc), .v (.agg #[.slice a2 p.set.length d2, .slice CA cells.length cc]), .li, .ap, .v (.pointer (some ⟨b, 0, none⟩)), .v undef] : List _).getD j (.v undef)) u w') → (HD p.set cells a2 d2 CA cc K KP rows w3.heap.size) (.v (.pointer (some ⟨b, 0, none⟩))) uu w' → K9 _ w' := hK
                        simp only [Act.put, List.setIfInBounds_toArray, List.set_cons_zero, List.set_cons_succ] at hK ⊢
                        have HK := Lib.hid hK
                        have HG := Lib.hid hG
                        clear hK hd
                        clear hG hbp hbn
                        go_simp
                        exact HK.out _ _ HG.out (fun _ _ _ h9 => h9) rfl
                      · intro vs yb wx hG hd hbp hbn K9 hK
                        have e0 : vs 0 = .pointer (some ⟨b, 0, none⟩) := hd.get (j := 0) (by simp [depsOf, Region.binds])
                        replace hK : ∀ (uu : Value) (w' : World), ((fun fl wx => Gd w3 fl wx K KP b A1 A3 c1 c3 (ad.add (i * 8)) a2 d2 CA cc p.set cells rows (notes ++ ns))) yb w' → (∀ j u, Nat.beq j 1 = false → (HD p.set cells a2 d2 CA cc K KP rows w3.heap.size) (([.v (.pointer (some ⟨b, 0, none⟩)), .v (.slice A1 rows.length c1), .v (.slice (some ad) l.length cap), .v (.int .i64 i), .v (.pointer (some (ad.add (i * 8)))), .v (.pointer (some (ad.add (i * 8)))), .v (.slice a2 p.set.length d2), .v (.slice CA cells.length cc), .v (.agg #[.slice a2 p.set.length d2, .slice CA cells.length cc]), .li, .ap, .v (.pointer (some ⟨b, 0, none⟩)), .v undef] : List _).getD j (.v undef)) u wx → (HD p.set cells a2 d2 CA cc K KP rows w3.heap.size) (([.v (.pointer (some ⟨b, 0, none⟩)), .v (.slice A1 rows.length c1), .v (.slice (some ad) l.length cap), .v (.int .i64 i), .v (.pointer (some (ad.add (i * 8)))), .v (.pointer (some (ad.add (i * 8)))), .v (.slice a2 p.set.length d2), .v (.slice CA cells.length cc), .v (.agg #[.slice a2 p.set.length d2, .slice CA cells.length cc]), .li, .ap, .v (.pointer (some ⟨b, 0, none⟩)), .v undef] : List _).getD j (.v undef)) u w') → (HD p.set cells a2 d2 CA cc K KP rows w3.heap.size) (.v (.slice A1 rows.length c1)) uu w' → K9 _ w' := hK
                        simp only [Act.put, List.setIfInBounds_toArray, List.set_cons_zero, List.set_cons_succ, e0] at hK ⊢
                        have HK := Lib.hid hK
                        have HG := Lib.hid hG
                        clear hK hd e0
                        have pc0 := HG.out.pc
                        have q0 : wx.cell? ⟨b, 0, none⟩ = some (.slice A1 rows.length c1) := HG.out.bx.cell rfl
                        clear hG hbp hbn
                        go_simp
                        exact HK.out _ _ HG.out (fun _ _ _ h9 => h9) rfl
                      · intro vs yb wx hG hd hbp hbn K9 hK
                        replace hK : ∀ (uu : Value) (w' : World), ((fun fl wx => Gd w3 fl wx K KP b A1 A3 c1 c3 (ad.add (i * 8)) a2 d2 CA cc p.set cells rows (notes ++ ns))) yb w' → (∀ j u, Nat.beq j 2 = false → (HD p.set cells a2 d2 CA cc K KP rows w3.heap.size) (([.v (.pointer (some ⟨b, 0, none⟩)), .v (.slice A1 rows.length c1), .v (.slice (some ad) l.length cap), .v (.int .i64 i), .v (.pointer (some (ad.add (i * 8)))), .v (.pointer (some (ad.add (i * 8)))), .v (.slice a2 p.set.length d2), .v (.slice CA cells.length cc), .v (.agg #[.slice a2 p.set.length d2, .slice CA cells.length cc]), .li, .ap, .v (.pointer (some ⟨b, 0, none⟩)), .v undef] : List _).getD j (.v undef)) u wx → (HD p.set cells a2 d2 CA cc K KP rows w3.heap.size) (([.v (.pointer (some ⟨b, 0, none⟩)), .v (.slice A1 rows.length c1), .v (.slice (some ad) l.length cap), .v (.int .i64 i), .v (.pointer (some (ad.add (i * 8)))), .v (.pointer (some (ad.add (i * 8)))), .v (.slice a2 p.set.length d2), .v (.slice CA cells.length cc), .v (.agg #[.slice a2 p.set.length d2, .slice CA cells.length cc]), .li, .ap, .v (.pointer (some ⟨b, 0, none⟩)), .v undef] : List _).getD j (.v undef)) u w') → (HD p.set cells a2 d2 CA cc K KP rows w3.heap.size) (.v (.slice (some ad) l.length cap)) uu w' → K9 _ w' := hK
                        simp only [Act.put, List.setIfInBounds_toArray, List.set_cons_zero, List.set_cons_succ] at hK ⊢
                        have HK := Lib.hid hK
                        have HG := Lib.hid hG
                        clear hK hd
                        clear hG hbp hbn
                        go_simp
                        exact HK.out _ _ HG.out (fun _ _ _ h9 => h9) rfl
                      · intro vs yb wx hG hd hbp hbn K9 hK
                        replace hK : ∀ (uu : Value) (w' : World), ((fun fl wx => Gd w3 fl wx K KP b A1 A3 c1 c3 (ad.add (i * 8)) a2 d2 CA cc p.set cells rows (notes ++ ns))) yb w' → (∀ j u, Nat.beq j 3 = false → (HD p.set cells a2 d2 CA cc K KP rows w3.heap.size) (([.v (.pointer (some ⟨b, 0, none⟩)), .v (.slice A1 rows.length c1), .v (.slice (some ad) l.length cap), .v (.int .i64 i), .v (.pointer (some (ad.add (i * 8)))), .v (.pointer (some (ad.add (i * 8)))), .v (.slice a2 p.set.length d2), .v (.slice CA cells.length cc), .v (.agg #[.slice a2 p.set.length d2, .slice CA cells.length cc]), .li, .ap, .v (.pointer (some ⟨b, 0, none⟩)), .v undef] : List _).getD j (.v undef)) u wx → (HD p.set cells a2 d2 CA cc K KP rows w3.heap.size) (([.v (.pointer (some ⟨b, 0, none⟩)), .v (.slice A1 rows.length c1), .v (.slice (some ad) l.length cap), .v (.int .i64 i), .v (.pointer (some (ad.add (i * 8)))), .v (.pointer (some (ad.add (i * 8)))), .v (.slice a2 p.set.length d2), .v (.slice CA cells.length cc), .v (.agg #[.slice a2 p.set.length d2, .slice CA cells.length cc]), .li, .ap, .v (.pointer (some ⟨b, 0, none⟩)), .v undef] : List _).getD j (.v undef)) u w') → (HD p.set cells a2 d2 CA cc K KP rows w3.heap.size) (.v (.int .i64 i)) uu w' → K9 _ w' := hK
                        simp only [Act.put, List.setIfInBounds_toArray, List.set_cons_zero, List.set_cons_succ] at hK ⊢
                        have HK := Lib.hid hK
                        have HG := Lib.hid hG
                        clear hK hd
                        clear hG hbp hbn
                        go_simp
                        exact HK.out _ _ HG.out (fun _ _ _ h9 => h9) rfl
                      · intro vs yb wx hG hd hbp hbn K9 hK
                        have e2 : vs 2 = .slice (some ad) l.length cap := hd.get (j := 2) (by simp [depsOf, Region.binds])
                        have e3 : vs 3 = .int .i64 i := hd.get (j := 3) (by simp [depsOf, Region.binds])
                        replace hK : ∀ (uu : Value) (w' : World), ((fun fl wx => Gd w3 fl wx K KP b A1 A3 c1 c3 (ad.add (i * 8)) a2 d2 CA cc p.set cells rows (notes ++ ns))) yb w' → (∀ j u, Nat.beq j 4 = false → (HD p.set cells a2 d2 CA cc K KP rows w3.heap.size) (([.v (.pointer (some ⟨b, 0, none⟩)), .v (.slice A1 rows.length c1), .v (.slice (some ad) l.length cap), .v (.int .i64 i), .v (.pointer (some (ad.add (i * 8)))), .v (.pointer (some (ad.add (i * 8)))), .v (.slice a2 p.set.length d2), .v (.slice CA cells.length cc), .v (.agg #[.slice a2 p.set.length d2, .slice CA cells.length cc]), .li, .ap, .v (.pointer (some ⟨b, 0, none⟩)), .v undef] : List _).getD j (.v undef)) u wx → (HD p.set cells a2 d2 CA cc K KP rows w3.heap.size) (([.v (.pointer (some ⟨b, 0, none⟩)), .v (.slice A1 rows.length c1), .v (.slice (some ad) l.length cap), .v (.int .i64 i), .v (.pointer (some (ad.add (i * 8)))), .v (.pointer (some (ad.add (i * 8)))), .v (.slice a2 p.set.length d2), .v (.slice CA cells.length cc), .v (.agg #[.slice a2 p.set.length d2, .slice CA cells.length cc]), .li, .ap, .v (.pointer (some ⟨b, 0, none⟩)), .v undef] : List _).getD j (.v undef)) u w') → (HD p.set cells a2 d2 CA cc K KP rows w3.heap.size) (.v (.pointer (some (ad.add (i * 8))))) uu w' → K9 _ w' := hK
                        simp only [Act.put, List.setIfInBounds_toArray, List.set_cons_zero, List.set_cons_succ, e2, e3] at hK ⊢
                        have HK := Lib.hid hK
                        have HG := Lib.hid hG
                        clear hK hd e2 e3
                        clear hG hbp hbn
                        go_simp
                        exact HK.out _ _ HG.out (fun _ _ _ h9 => h9) rfl
                      · intro vs yb wx hG hd hbp hbn K9 hK
                        have e4 : vs 4 = .pointer (some (ad.add (i * 8))) := hd.get (j := 4) (by simp [depsOf, Region.binds])
                        replace hK : ∀ (uu : Value) (w' : World), ((fun fl wx => Gd w3 fl wx K KP b A1 A3 c1 c3 (ad.add (i * 8)) a2 d2 CA cc p.set cells rows (notes ++ ns))) yb w' → (∀ j u, Nat.beq j 5 = false → (HD p.set cells a2 d2 CA cc K KP rows w3.heap.size) (([.v (.pointer (some ⟨b, 0, none⟩)), .v (.slice A1 rows.length c1), .v (.slice (some ad) l.length cap), .v (.int .i64 i), .v (.pointer (some (ad.add (i * 8)))), .v (.pointer (some (ad.add (i * 8)))), .v (.slice a2 p.set.length d2), .v (.slice CA cells.length cc), .v (.agg #[.slice a2 p.set.length d2, .slice CA cells.length cc]), .li, .ap, .v (.pointer (some ⟨b, 0, none⟩)), .v undef] : List _).getD j (.v undef)) u wx → (HD p.set cells a2 d2 CA cc K KP rows w3.heap.size) (([.v (.pointer (some ⟨b, 0, none⟩)), .v (.slice A1 rows.length c1), .v (.slice (some ad) l.length cap), .v (.int .i64 i), .v (.pointer (some (ad.add (i * 8)))), .v (.pointer (some (ad.add (i * 8)))), .v (.slice a2 p.set.length d2), .v (.slice CA cells.length cc), .v (.agg #[.slice a2 p.set.length d2, .slice CA cells.length cc]), .li, .ap, .v (.pointer (some ⟨b, 0, none⟩)), .v undef] : List _).getD j (.v undef)) u w') → (HD p.set cells a2 d2 CA cc K KP rows w3.heap.size) (.v (.pointer (some (ad.add (i * 8))))) uu w' → K9 _ w' := hK
                        simp only [Act.put, List.setIfInBounds_toArray, List.set_cons_zero, List.set_cons_succ, e4] at hK ⊢
                        have HK := Lib.hid hK
                        have HG := Lib.hid hG
                        clear hK hd e4
                        clear hG hbp hbn
                        go_simp
                        exact HK.out _ _ HG.out (fun _ _ _ h9 => h9) rfl
                      · intro vs yb wx hG hd hbp hbn K9 hK
                        have e5 : vs 5 = .pointer (some (ad.add (i * 8))) := hd.get (j := 5) (by simp [depsOf, Region.binds])
                        replace hK : ∀ (uu : Value) (w' : World), ((fun fl wx => Gd w3 fl wx K KP b A1 A3 c1 c3 (ad.add (i * 8)) a2 d2 CA cc p.set cells rows (notes ++ ns))) yb w' → (∀ j u, Nat.beq j 6 = false → (HD p.set cells a2 d2 CA cc K KP rows w3.heap.size) (([.v (.pointer (some ⟨b, 0, none⟩)), .v (.slice A1 rows.length c1), .v (.slice (some ad) l.length cap), .v (.int .i64 i), .v (.pointer (some (ad.add (i * 8)))), .v (.pointer (some (ad.add (i * 8)))), .v (.slice a2 p.set.length d2), .v (.slice CA cells.length cc), .v (.agg #[.slice a2 p.set.length d2, .slice CA cells.length cc]), .li, .ap, .v (.pointer (some ⟨b, 0, none⟩)), .v undef] : List _).getD j (.v undef)) u wx → (HD p.set cells a2 d2 CA cc K KP rows w3.heap.size) (([.v (.pointer (some ⟨b, 0, none⟩)), .v (.slice A1 rows.length c1), .v (.slice (some ad) l.length cap), .v (.int .i64 i), .v (.pointer (some (ad.add (i * 8)))), .v (.pointer (some (ad.add (i * 8)))), .v (.slice a2 p.set.length d2), .v (.slice CA cells.length cc), .v (.agg #[.slice a2 p.set.length d2, .slice CA cells.length cc]), .li, .ap, .v (.pointer (some ⟨b, 0, none⟩)), .v undef] : List _).getD j (.v undef)) u w') → (HD p.set cells a2 d2 CA cc K KP rows w3.heap.size) (.v (.slice a2 p.set.length d2)) uu w' → K9 _ w' := hK
                        simp only [Act.put, List.setIfInBounds_toArray, List.set_cons_zero, List.set_cons_succ, e5] at hK ⊢
                        have HK := Lib.hid hK
                        have HG := Lib.hid hG
                        clear hK hd e5
                        have pc0 := HG.out.pc
                        have q0 : wx.cell? ⟨b, 0, none⟩ = some (.slice A1 rows.length c1) := HG.out.bx.cell rfl
                        clear hG hbp hbn
                        go_simp
                        exact HK.out _ _ HG.out (fun _ _ _ h9 => h9) rfl
                      · intro vs yb wx hG hd hbp hbn K9 hK
                        replace hK : ∀ (uu : Value) (w' : World), ((fun fl wx => Gd w3 fl wx K KP b A1 A3 c1 c3 (ad.add (i * 8)) a2 d2 CA cc p.set cells rows (notes ++ ns))) yb w' → (∀ j u, Nat.beq j 7 = false → (HD p.set cells a2 d2 CA cc K KP rows w3.heap.size) (([.v (.pointer (some ⟨b, 0, none⟩)), .v (.slice A1 rows.length c1), .v (.slice (some ad) l.length cap), .v (.int .i64 i), .v (.pointer (some (ad.add (i * 8)))), .v (.pointer (some (ad.add (i * 8)))), .v (.slice a2 p.set.length d2), .v (.slice CA cells.length cc), .v (.agg #[.slice a2 p.set.length d2, .slice CA cells.length cc]), .li, .ap, .v (.pointer (some ⟨b, 0, none⟩)), .v undef] : List _).getD j (.v undef)) u wx → (HD p.set cells a2 d2 CA cc K KP rows w3.heap.size) (([.v (.pointer (some ⟨b, 0, none⟩)), .v (.slice A1 rows.length c1), .v (.slice (some ad) l.length cap), .v (.int .i64 i), .v (.pointer (some (ad.add (i * 8)))), .v (.pointer (some (ad.add (i * 8)))), .v (.slice a2 p.set.length d2), .v (.slice CA cells.length cc), .v (.agg #[.slice a2 p.set.length d2, .slice CA cells.length cc]), .li, .ap, .v (.pointer (some ⟨b, 0, none⟩)), .v undef] : List _).getD j (.v undef)) u w') → (HD p.set cells a2 d2 CA cc K KP rows w3.heap.size) (.v (.slice CA cells.length cc)) uu w' → K9 _ w' := hK
                        simp only [Act.put, List.setIfInBounds_toArray, List.set_cons_zero, List.set_cons_succ] at hK ⊢
                        have HK := Lib.hid hK
                        have HG := Lib.hid hG
                        clear hK hd
                        clear hG hbp hbn
                        go_simp
                        exact HK.out _ _ HG.out (fun _ _ _ h9 => h9) rfl
                      · intro vs yb wx hG hd hbp hbn K9 hK
                        have e6 : vs 6 = .slice a2 p.set.length d2 := hd.get (j := 6) (by simp [depsOf, Region.binds])
                        have e7 : vs 7 = .slice CA cells.length cc := hd.get (j := 7) (by simp [depsOf, Region.binds])
                        replace hK : ∀ (uu : Value) (w' : World), ((fun fl wx => Gd w3 fl wx K KP b A1 A3 c1 c3 (ad.add (i * 8)) a2 d2 CA cc p.set cells rows (notes ++ ns))) yb w' → (∀ j u, Nat.beq j 8 = false → (HD p.set cells a2 d2 CA cc K KP rows w3.heap.size) (([.v (.pointer (some ⟨b, 0, none⟩)), .v (.slice A1 rows.length c1), .v (.slice (some ad) l.length cap), .v (.int .i64 i), .v (.pointer (some (ad.add (i * 8)))), .v (.pointer (some (ad.add (i * 8)))), .v (.slice a2 p.set.length d2), .v (.slice CA cells.length cc), .v (.agg #[.slice a2 p.set.length d2, .slice CA cells.length cc]), .li, .ap, .v (.pointer (some ⟨b, 0, none⟩)), .v undef] : List _).getD j (.v undef)) u wx → (HD p.set cells a2 d2 CA cc K KP rows w3.heap.size) (([.v (.pointer (some ⟨b, 0, none⟩)), .v (.slice A1 rows.length c1), .v (.slice (some ad) l.length cap), .v (.int .i64 i), .v (.pointer (some (ad.add (i * 8)))), .v (.pointer (some (ad.add (i * 8)))), .v (.slice a2 p.set.length d2), .v (.slice CA cells.length cc), .v (.agg #[.slice a2 p.set.length d2, .slice CA cells.length cc]), .li, .ap, .v (.pointer (some ⟨b, 0, none⟩)), .v undef] : List _).getD j (.v undef)) u w') → (HD p.set cells a2 d2 CA cc K KP rows w3.heap.size) (.v (.agg #[.slice a2 p.set.length d2, .slice CA cells.length cc])) uu w' → K9 _ w' := hK
                        simp only [Act.put, List.setIfInBounds_toArray, List.set_cons_zero, List.set_cons_succ, e6, e7] at hK ⊢
                        have HK := Lib.hid hK
                        have HG := Lib.hid hG
                        clear hK hd e6 e7
                        clear hG hbp hbn
                        go_simp
                        exact HK.out _ _ HG.out (fun _ _ _ h9 => h9) rfl
                      · intro vs yb wx hG hd hbp hbn K9 hK
                        have e8 : vs 8 = .agg #[.slice a2 p.set.length d2, .slice CA cells.length cc] := hd.get (j := 8) (by simp [depsOf, Region.binds])
                        replace hK : ∀ (uu : Value) (w' : World), ((fun fl wx => Gd w3 fl wx K KP b A1 A3 c1 c3 (ad.add (i * 8)) a2 d2 CA cc p.set cells rows (notes ++ ns))) yb w' → (∀ j u, Nat.beq j 9 = false → (HD p.set cells a2 d2 CA cc K KP rows w3.heap.size) (([.v (.pointer (some ⟨b, 0, none⟩)), .v (.slice A1 rows.length c1), .v (.slice (some ad) l.length cap), .v (.int .i64 i), .v (.pointer (some (ad.add (i * 8)))), .v (.pointer (some (ad.add (i * 8)))), .v (.slice a2 p.set.length d2), .v (.slice CA cells.length cc), .v (.agg #[.slice a2 p.set.length d2, .slice CA cells.length cc]), .li, .ap, .v (.pointer (some ⟨b, 0, none⟩)), .v undef] : List _).getD j (.v undef)) u wx → (HD p.set cells a2 d2 CA cc K KP rows w3.heap.size) (([.v (.pointer (some ⟨b, 0, none⟩)), .v (.slice A1 rows.length c1), .v (.slice (some ad) l.length cap), .v (.int .i64 i), .v (.pointer (some (ad.add (i * 8)))), .v (.pointer (some (ad.add (i * 8)))), .v (.slice a2 p.set.length d2), .v (.slice CA cells.length cc), .v (.agg #[.slice a2 p.set.length d2, .slice CA cells.length cc]), .li, .ap, .v (.pointer (some ⟨b, 0, none⟩)), .v undef] : List _).getD j (.v undef)) u w') → (HD p.set cells a2 d2 CA cc K KP rows w3.heap.size) (.li) uu w' → K9 _ w' := hK
                        simp only [Act.put, List.setIfInBounds_toArray, List.set_cons_zero, List.set_cons_succ, e8] at hK ⊢
                        have HK := Lib.hid hK
                        have HG := Lib.hid hG
                        clear hK hd e8
                        have HS := Lib.hid (HG.out.sz)
                        clear hG
                        go_simp
                        have hb : Below wx.heap.size wx (wx.alloc (.cells #[.slice a2 p.set.length d2, .slice CA cells.length cc] 87)) := (Below.refl _ _).alloc (Nat.le_refl _) _
                        exact HK.out _ _ (HG.out.below hb) (fun j u _ h9 => HD.mono h9 hb) ⟨wx.heap.size, rfl, HS.out, heap_alloc_new wx _⟩
                      · intro vs yb wx hG hd hbp hbn K9 hK
                        have e1 : vs 1 = .slice A1 rows.length c1 := hd.get (j := 1) (by simp [depsOf, Region.binds])
                        obtain ⟨g9, e9, f9, h9⟩ : ∃ g, vs 9 = .slice (some ⟨g, 0, none⟩) 1 1 ∧ w3.heap.size ≤ g ∧ wx.heap[g]? = some (.cells #[.slice a2 p.set.length d2, .slice CA cells.length cc] 87) := hd.get (j := 9) (by simp [depsOf, Region.binds])
                        replace hK : ∀ (uu : Value) (w' : World), ((fun fl wx => Gd w3 fl wx K KP b A1 A3 c1 c3 (ad.add (i * 8)) a2 d2 CA cc p.set cells rows (notes ++ ns))) true w' → (∀ j u, Nat.beq j 10 = false → (HD p.set cells a2 d2 CA cc K KP rows w3.heap.size) (([.v (.pointer (some ⟨b, 0, none⟩)), .v (.slice A1 rows.length c1), .v (.slice (some ad) l.length cap), .v (.int .i64 i), .v (.pointer (some (ad.add (i * 8)))), .v (.pointer (some (ad.add (i * 8)))), .v (.slice a2 p.set.length d2), .v (.slice CA cells.length cc), .v (.agg #[.slice a2 p.set.length d2, .slice CA cells.length cc]), .li, .ap, .v (.pointer (some ⟨b, 0, none⟩)), .v undef] : List _).getD j (.v undef)) u wx → (HD p.set cells a2 d2 CA cc K KP rows w3.heap.size) (([.v (.pointer (some ⟨b, 0, none⟩)), .v (.slice A1 rows.length c1), .v (.slice (some ad) l.length cap), .v (.int .i64 i), .v (.pointer (some (ad.add (i * 8)))), .v (.pointer (some (ad.add (i * 8)))), .v (.slice a2 p.set.length d2), .v (.slice CA cells.length cc), .v (.agg #[.slice a2 p.set.length d2, .slice CA cells.length cc]), .li, .ap, .v (.pointer (some ⟨b, 0, none⟩)), .v undef] : List _).getD j (.v undef)) u w') → (HD p.set cells a2 d2 CA cc K KP rows w3.heap.size) (.ap) uu w' → K9 _ w' := hK
                        simp only [Act.put, List.setIfInBounds_toArray, List.set_cons_zero, List.set_cons_succ, e1, e9] at hK ⊢
                        have HK := Lib.hid hK
                        have HG := Lib.hid hG
                        clear hK hd e1 e9
                        have hyb : yb = false := hbp rfl
                        subst hyb
                        have hrg := HG.out.rg rfl
                        have hsz := HG.out.sz
                        have hce := HG.out.ce
                        have hls := HG.out.ls
                        have hsr : Sr encRz 2 wx wx.heap.size (some ⟨g9, 0, none⟩) 1 [(((p.set, cells), (a2, d2), (CA, cc)) : Rz)] := sr_lit h9 rfl
                        clear hG
                        apply step_appE Tryz.underlying40 info_drow rfl (by decide) encRz_len encRz_one (K := K) (v := .slice A1 rows.length c1) (l := rows) (A := some ⟨g9, 0, none⟩) (cap := 1) (m := [(((p.set, cells), (a2, d2), (CA, cc)) : Rz)]) (K' := wx.heap.size) (s := .tmp 149) (x := .tmp 157)
                        case hgd => rfl
                        case ho => rfl
                        case hs => rfl
                        case hx => rfl
                        case hown => exact hrg.so
                        case hsrc => exact hsr
                        case hm => unfold maxLen; have := hrl9.out; simp only [List.length_singleton]; omega
                        case hsz => have := hrl9.out; simp only [List.length_singleton]; omega
                        case hbase => exact Nat.le_trans hKW.out hsz
                        intro A5 c5 w5 so5 hg5
                        have so6 : So encRz 2 w5 K 87 (.slice A5 (rows.length + 1) c5) (rows ++ [(((p.set, cells), (a2, d2), (CA, cc)) : Rz)]) := so5
                        have hkw : K ≤ wx.heap.size := Nat.le_trans hKW.out hsz
                        have hk := hrg.push (r := (((p.set, cells), (a2, d2), (CA, cc)) : Rz)) hls hce hg5 so6 HG.out.hp hkw
                        have hlt9 : ∀ g, (Value.slice A1 rows.length c1).ownBlock = some g → g < w3.heap.size := HG.out.lt
                        have hb5 : Below K wx w5 := grown_belowE (Below.refl _ _) hg5 hkw (fun _ e => (hrg.so.lt _ e).1)
                        have hkp5 : KP ≤ w5.heap.size := Nat.le_trans (Nat.le_trans HG.out.hp hkw) hb5.size
                        simp only [Act.put, List.setIfInBounds_toArray, List.set_cons_zero, List.set_cons_succ]
                        exact HK.out _ _ (HG.out.app hrg.so hg5) (fun j u hj h9 => HD.grown (telld_ne j hj) h9 hg5 hlt9) ⟨A5, c5, rfl, hkp5, hk⟩
                      · intro vs yb wx hG hd hbp hbn K9 hK
                        replace hK : ∀ (uu : Value) (w' : World), ((fun fl wx => Gd w3 fl wx K KP b A1 A3 c1 c3 (ad.add (i * 8)) a2 d2 CA cc p.set cells rows (notes ++ ns))) yb w' → (∀ j u, Nat.beq j 11 = false → (HD p.set cells a2 d2 CA cc K KP rows w3.heap.size) (([.v (.pointer (some ⟨b, 0, none⟩)), .v (.slice A1 rows.length c1), .v (.slice (some ad) l.length cap), .v (.int .i64 i), .v (.pointer (some (ad.add (i * 8)))), .v (.pointer (some (ad.add (i * 8)))), .v (.slice a2 p.set.length d2), .v (.slice CA cells.length cc), .v (.agg #[.slice a2 p.set.length d2, .slice CA cells.length cc]), .li, .ap, .v (.pointer (some ⟨b, 0, none⟩)), .v undef] : List _).getD j (.v undef)) u wx → (HD p.set cells a2 d2 CA cc K KP rows w3.heap.size) (([.v (.pointer (some ⟨b, 0, none⟩)), .v (.slice A1 rows.length c1), .v (.slice (some ad) l.length cap), .v (.int .i64 i), .v (.pointer (some (ad.add (i * 8)))), .v (.pointer (some (ad.add (i * 8)))), .v (.slice a2 p.set.length d2), .v (.slice CA cells.length cc), .v (.agg #[.slice a2 p.set.length d2, .slice CA cells.length cc]), .li, .ap, .v (.pointer (some ⟨b, 0, none⟩)), .v undef] : List _).getD j (.v undef)) u w') → (HD p.set cells a2 d2 CA cc K KP rows w3.heap.size) (.v (.pointer (some ⟨b, 0, none⟩))) uu w' → K9 _ w' := hK
                        simp only [Act.put, List.setIfInBounds_toArray, List.set_cons_zero, List.set_cons_succ] at hK ⊢
                        have HK := Lib.hid hK
                        have HG := Lib.hid hG
                        clear hK hd
                        clear hG hbp hbn
                        go_simp
                        exact HK.out _ _ HG.out (fun _ _ _ h9 => h9) rfl
                      · intro vs yb wx hG hd hbp hbn K9 hK
                        obtain ⟨A10, d10, e10, k10, r10⟩ : ∃ (A' : Option Addr) (c' : Nat), vs 10 = .slice A' (rows.length + 1) c' ∧ KP ≤ wx.heap.size ∧ Rd9 wx K KP (.slice A' (rows.length + 1) c') (rows ++ [((p.set, cells), (a2, d2), (CA, cc))]) := hd.get (j := 10) (by simp [depsOf, Region.binds])
                        have e11 : vs 11 = .pointer (some ⟨b, 0, none⟩) := hd.get (j := 11) (by simp [depsOf, Region.binds])
                        replace hK : ∀ (uu : Value) (w' : World), ((fun wx => TellD w3 wx K KP b A3 c3 a2 d2 CA cc p.set cells rows (notes ++ ns))) w' → K9 _ w' := hK
                        simp only [Act.put, e10, e11] at hK ⊢
                        have HK := Lib.hid hK
                        have HG := Lib.hid hG
                        clear hK hd e10 e11
                        have hbx := HG.out.bx
                        have q0 : wx.cell? ⟨b, 0, none⟩ = some (.slice A1 rows.length c1) := hbx.cell rfl
                        have qf := hbx.fr 0
                        have ql := hbx.lt
                        have HF := Lib.hid (HG.out.fin hKb9.out r10)
                        clear hG hbx
                        go_simp
                        exact HK.out undef _ HF.out
                    case hend =>
                      intro vs wx hE
                      obtain ⟨A9, c9, ha9, hb9⟩ := hE
                      have HA9 := Lib.hid ha9
                      have HB9 := Lib.hid (HBF.out.trans hb9)
                      clear ha9 hb9
                      go_wp2_with fail
                      go_roundw
                      case rel => exact ⟨i + 1, rows ++ [((p.set, cells), (a2, d2), (CA, cc))], notes ++ ns, A9, A3, c9, c3, by go_num, hlt, HA9.out, Lib.hid (by rw [hf2]; rw [List.map_append, List.map_append]; exact HNX.out), HB9.out, by rw [List.length_append]; simp; exact hrl, by rw [List.length_append]; omega⟩
                      case measure => simp [intOf]; omega
                · have her2 : (er == (0 : Int)) = false := by simpa using her
                  have HE9 : Hid (res = (er, [], [])) := Lib.hid (tg_err HTG.out (by rw [HT.out, if_pos her]) her)
                  have hrx := HRX.out w3 HBF.out
                  have r0 : w3.cell? ⟨w.heap.size + 1, 0, none⟩ = some (.slice none 0 0) := hrx.cell rfl
                  have r1 : w3.cell? ⟨w.heap.size + 1, 1, none⟩ = some (.slice none 0 0) := hrx.cell rfl
                  have rf := hrx.fr
                  have rl := hrx.lt
                  have HRZ := Lib.hid hrx
                  clear hrx her
                  go_wp2_with fail
                  have s0 := (HRZ.out.set 0 (.slice none 0 0)).set 1 (.slice none 0 0)
                  have t0 := s0.cell (i := 0) (v := .slice none 0 0) rfl
                  have t1 := s0.cell (i := 1) (v := .slice none 0 0) rfl
                  exact bodyPost_ret (v := .tuple #[.agg #[.slice none 0 0, .slice none 0 0], .int .i64 er]) (by simp [results, Tryz.results9, go_sem, t0, t1]) rfl ⟨none, none, 0, 0, [], [], by rw [HTE.out, HE9.out]; rfl, by rw [HTE.out, HE9.out]; rfl, by rw [HTE.out, HE9.out]; rfl, Rd9.empty _ _ _, Pd9.empty _ _ _, HEND.out w3 HBF.out⟩
end Go.Proofs.YtcfbcidakddhfaaGreatDoor
namespace Go.Proofs.YtcfbcidakddhfaaGreatDoor
open Go.RowKit Go.BigFrame

theorem So.tnA {α : Type} {enc : α → List Value} {k : Nat} {P : Nat → Prop} {w w' : World} {K : Nat} {T : TypeId} {v : Value} {l : List α} (h : So enc k w K T v l) (t : Tn P w w') (hn : ∀ g, v.ownBlock = some g → ¬ P g) : So enc k w' K T v l := by
  have hlt := h.lt
  rcases h.2 with ⟨he, h0⟩ | ⟨g, cap', cur, he, hb, hg, hrest⟩
  · exact ⟨h.1, .inl ⟨he, h0⟩⟩
  · subst he
    exact ⟨h.1, .inr ⟨g, cap', cur, rfl, hb, (t.block g (hlt g rfl).2 (hn g rfl)).trans hg, hrest⟩⟩
/-- A block of pairs from B on. -/
def Pa (B : Nat) (W : World) (g : Nat) : Prop := B ≤ g ∧ ∃ cs, W.heap[g]? = some (.cells cs 54)
/-- Room for n pairs at A, in a block from B on. -/
def Zp (w : World) (B : Nat) (A : Option Addr) (n : Nat) : Prop := n = 0 ∨ ∃ g cs, A = some ⟨g, 0, none⟩ ∧ B ≤ g ∧ Rwo w g cs 54 ∧ n * 2 ≤ cs.size
theorem Zp.of {w : World} {B c : Nat} {A : Option Addr} {l : List Pp} (h : So encP 2 w B 54 (.slice A l.length c) l) : Zp w B A l.length := by
  rcases h.2 with ⟨_, h0⟩ | ⟨g, cap, cur, e, hb, hc, hn, _, hs, _⟩
  · exact .inl h0
  · injection e with e1 _ _
    exact .inr ⟨g, cur, e1, hb, ⟨hc⟩, by rw [hs]; exact Nat.mul_le_mul_right _ hn⟩
theorem Zp.set {w : World} {B n : Nat} {A : Option Addr} (h : Zp w B A n) (b o : Nat) (v : Value) : Zp (w.setCell ⟨b, o, none⟩ v) B A n := by
  rcases h with h | ⟨g, cs, e, hb, hr, hs⟩
  · exact .inl h
  · by_cases hg : g = b
    · subst hg
      exact .inr ⟨g, _, e, hb, hr.set o v, by simpa using hs⟩
    · exact .inr ⟨g, cs, e, hb, hr.other hg, hs⟩
/-- The world in those loops: only sets of the answer's own have turned. -/
structure Zs (B : Nat) (W wx : World) (rs : List Rz) (ns : List Pz) : Prop where
  t : Tn (Pa B W) W wx
  r : ∀ x ∈ rs, Zp wx B x.2.1.1 x.1.1.length
  n : ∀ x ∈ ns, Zp wx B x.2.1 x.1.set.length
section
variable {B : Nat} {W wx : World} {rs : List Rz} {ns : List Pz}
theorem Zs.start (h1 : ∀ x ∈ rs, So encP 2 W B 54 (.slice x.2.1.1 x.1.1.length x.2.1.2) x.1.1) (h2 : ∀ x ∈ ns, So encP 2 W B 54 (.slice x.2.1 x.1.set.length x.2.2) x.1.set) : Zs B W W rs ns :=
  ⟨Tn.refl _ _, fun x hx => Zp.of (h1 x hx), fun x hx => Zp.of (h2 x hx)⟩
theorem Zs.store (h : Zs B W wx rs ns) {g : Nat} {cs : Array Value} (hr : Rwo wx g cs 54) (hB : B ≤ g) (o1 o2 : Nat) (v1 v2 : Value) : Zs B W ((wx.setCell ⟨g, o1, none⟩ v1).setCell ⟨g, o2, none⟩ v2) rs ns := by
  have hg : ∀ k, k < W.heap.size → k = g → Pa B W k := fun k hk e => by
    subst e
    refine Classical.byContradiction fun hn => hn ⟨hB, cs, ?_⟩
    rw [← h.t.block k hk hn]
    exact hr.hp
  refine ⟨(h.t.thenQ (Tn.setCell wx g o1 v1) hg).thenQ (Tn.setCell _ g o2 v2) hg, fun x hx => ((h.r x hx).set _ _ _).set _ _ _, fun x hx => ((h.n x hx).set _ _ _).set _ _ _⟩
theorem Zs.rwo (h : Zs B W wx rs ns) {b : Nat} {cs : Array Value} {T : TypeId} (hr : Rwo W b cs T) (hT : T ≠ 54) : Rwo wx b cs T :=
  ⟨(h.t.block b hr.lt (by
    rintro ⟨_, cs2, e⟩
    rw [hr.hp] at e
    injection e with e
    injection e with _ e2 _
    exact hT e2)).trans hr.hp⟩
theorem Zs.so (h : Zs B W wx rs ns) {α : Type} {enc : α → List Value} {k K : Nat} {T : TypeId} {v : Value} {l : List α} (hs : So enc k W K T v l) (hT : T ≠ 54) : So enc k wx K T v l :=
  hs.tnA h.t (by
    rintro g hg ⟨_, cs2, e⟩
    rcases hs.2 with ⟨e0, _⟩ | ⟨b, cap, cur, e0, _, hb, _⟩
    · subst e0; cases hg
    · subst e0
      simp only [Value.ownBlock, Option.some.injEq] at hg
      subst hg
      rw [hb] at e
      injection e with e
      injection e with _ e2 _
      exact hT e2)
theorem Zs.below (h : Zs B W wx rs ns) (hB : B ≤ W.heap.size) : Below B W wx := h.t.below hB (fun _ _ p => p.1)
end
/-- Points of the call's own, all below a block, stay. -/
theorem Pw.belowB {w w' : World} {K B : Nat} {T S : TypeId} {v : Value} {l : List Pz} (h : Pw w K T S v l) (hz : w.heap.size ≤ B) {W : World} (h1 : Below w.heap.size w W) (h2 : Below B W w') : Pw w' K T S v l :=
  ⟨(h.so.below h1).belowB h2 (fun g e => Nat.lt_of_lt_of_le (h.so.lt g e).2 hz), fun p hp => ((h.st p hp).below h1).belowB h2 (fun g e => Nat.lt_of_lt_of_le ((h.st p hp).lt g e).2 hz)⟩
end Go.Proofs.YtcfbcidakddhfaaGreatDoor
