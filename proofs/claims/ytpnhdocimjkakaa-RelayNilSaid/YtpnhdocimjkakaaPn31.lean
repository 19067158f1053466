/- A relay: entries as bytes: copyOfEntry, putList, entryRecord. -/
import Derived.Test.YtpnhdocimjkakaaPn30
import Derived.Test.YtpnhdocimjkakaaPn7
namespace Go.Proofs.Ytpnhdocimjkakaa
open Go.RowKit Go.BigFrame Go.Maps

def entB (x : Ez) : List UInt8 := numB (zz x.1) ++ numB x.2.1.length ++ x.2.1
def entsB (l : List Ez) : List UInt8 := l.flatMap entB
def listB (l : List Ez) : List UInt8 := numB l.length ++ entsB l
theorem entsB_snoc (l : List Ez) (j : Nat) (h : j < l.length) : entsB (l.take (j + 1)) = entsB (l.take j) ++ entB l[j] := by
  unfold entsB
  rw [List.take_succ_eq_append_getElem h, List.flatMap_append]
  simp
theorem entsB_le (l : List Ez) (j : Nat) (h : j < l.length) : (entsB (l.take j)).length + (entB l[j]).length ≤ (entsB l).length := by
  have h1 := entsB_snoc l j h
  have h2 : entsB l = entsB (l.take (j + 1)) ++ entsB (l.drop (j + 1)) := by
    unfold entsB
    rw [← List.flatMap_append, List.take_append_drop]
  have h3 := congrArg List.length h1
  have h4 := congrArg List.length h2
  rw [List.length_append] at h3 h4
  omega
/-- Entries in memory, their commands too. -/
structure Ep (w : World) (K : Nat) (A : Option Addr) (cap : Nat) (l : List Ez) : Prop where
  sr : Sr encEz 2 w K A cap l
  cm : ∀ x ∈ l, Bs w K x.2.2.1 x.2.2.2 x.2.1
theorem Ep.below {w w' : World} {K cap : Nat} {A : Option Addr} {l : List Ez} (h : Ep w K A cap l) (hb : Below K w w') : Ep w' K A cap l := ⟨h.sr.below hb, fun x hx => (h.cm x hx).below hb⟩
theorem Wz.belowK {w w1 : World} {K b : Nat} {v v1 : Value} {l l0 : List UInt8} (h : Wz w K b v l w1 v1) (hw : Wr w K b v l0) (hK : K ≤ w.heap.size) : Below K w w1 :=
  h.tn.below hK fun k _ p => by
    rcases p with rfl | e
    · exact hw.kb
    · exact (hw.ob.lt k e).1
theorem Wz.alloc {w w1 : World} {K b : Nat} {v v1 : Value} {l : List UInt8} (h : Wz w K b v l w1 v1) (o : Obj) : Wz w K b v l (w1.alloc o) v1 :=
  ⟨h.wr.alloc o, h.tn.then (Tn.alloc w1 o), h.own⟩
theorem el_cells {w : World} {K cap : Nat} {A : Option Addr} {l : List Ez} (h : Sr encEz 2 w K A cap l) {i : Nat} (hi : i < l.length) : ∃ ad : Addr, A = some ad ∧ ad.block < K ∧ w.cell? (ad.add (i * 2)) = some (.int .i64 l[i].1) ∧
    w.cell? ⟨(ad.add (i * 2)).block, (ad.add (i * 2)).off + 1, none⟩ = some (.slice l[i].2.2.1 l[i].2.1.length l[i].2.2.2) := by
  obtain ⟨ad, e, hb, h0, h1⟩ := h.get2 hi
  exact ⟨ad, e, hb, h0 _ rfl, h1 1 _ (by decide) rfl⟩
set_option maxRecDepth 100000 in
set_option maxHeartbeats 1600000 in
theorem putList_any (K0 : Nat) (A : Option Addr) (m cap : Nat) (L : List Ez) (w : World) (hn : L.length = m) (K b : Nat) (v : Value) (l : List UInt8) (h : Wr w K b v l) (hE : ∀ wx l' v', Wz w K b v l' wx v' → Ep wx K0 A cap L)
    (hi : ∀ x ∈ L, I64 x.1) (hsz : l.length + (listB L).length ≤ 100000000000000) (hlc : L.length ≤ 1048576) :
    Calls Try.prog 64 #[.pointer (some ⟨b, 0, none⟩), .slice A m cap] w fun e w' => e = .returned (.tuple #[]) ∧ ∃ v', Wz w K b v (l ++ listB L) w' v' := by
  subst hn
  have hle := (hE w l v (Wz.same h)).sr.le
  have hmax := (hE w l v (Wz.same h)).sr.max
  unfold maxLen at hmax
  have HE := Lib.hid hE
  have HI := Lib.hid hi
  have HW := Lib.hid h
  obtain ⟨m1, hm1⟩ : ∃ m1, m1 = l ++ numB L.length := ⟨_, rfl⟩
  obtain ⟨S, hS⟩ : ∃ S, S = (entsB L).length := ⟨_, rfl⟩
  have hms : m1.length + S ≤ 100000000000000 := by
    rw [hm1, hS]
    unfold listB at hsz
    rw [List.length_append] at hsz ⊢
    omega
  have hl0 : l.length + 9 ≤ 140737488355328 := by omega
  have HN := Lib.hid (wnum_any L.length (by omega) K b v l w h hl0)
  rw [← hm1] at HN
  have HM1 := Lib.hid hm1
  have HSE := Lib.hid hS
  have hbl := h.lt
  clear hE hi h hm1 hS hsz hl0
  go_enter Try.func64, Try.ntmps64
  go_wp2_with fail
  go_at_call 112
  refine HN.out.mono ?_
  rintro e w1 ⟨v1, s1⟩
  obtain rfl := s1.e
  have HZ1 := Lib.hid s1.z
  clear s1
  go_wp2_with fail
  go_loopw [13] (fun iv wr => ∃ (j : Nat) (v' : Value), j ≤ L.length ∧ iv = .int .i64 (j : Int) ∧ Wz w K b v (m1 ++ entsB (L.take j)) wr v') (fun iv _ => L.length - (intOf iv).toNat)
  case atStart => exact ⟨0, v1, Nat.zero_le _, rfl, by simpa [entsB] using HZ1.out⟩
  case round =>
    obtain ⟨j, v', hj, rfl, z⟩ := hrel
    rename World => wr
    have HZ := Lib.hid z
    clear z
    by_cases hlt : j < L.length
    · have HEP := Lib.hid (HE.out wr _ _ HZ.out)
      obtain ⟨ad, hA, hadK, g0, g1⟩ := el_cells HEP.out.sr hlt
      have hlI : (j : Int) < (L.length : Int) := by omega
      have hx64 := HI.out _ (List.getElem_mem hlt)
      have HT := Lib.hid (entsB_snoc L j hlt)
      have hle2 := entsB_le L j hlt
      have hxm := List.getElem_mem hlt
      generalize L[j] = x at *
      obtain ⟨ep, bs, CA, cc⟩ := x
      simp only at g0 g1 hx64
      have HEB : Hid (entB (ep, bs, CA, cc) = numB (zz ep) ++ numB bs.length ++ bs) := Lib.hid rfl
      rw [HEB.out] at HT hle2
      obtain ⟨pre, hpre⟩ : ∃ pre, pre = m1 ++ entsB (L.take j) := ⟨_, rfl⟩
      rw [← hpre] at HZ
      have hpl : pre.length + (numB (zz ep)).length + (numB bs.length).length + bs.length ≤ 100000000000000 := by
        rw [List.length_append, List.length_append, ← HSE.out] at hle2
        rw [hpre, List.length_append]
        omega
      have HPRE := Lib.hid hpre
      have hbr := HZ.out.wr.lt
      have HXM := Lib.hid hxm
      have HX64 := Lib.hid hx64
      subst hA
      clear hpre hle2 hxm hx64
      go_upto_region 4 with fail
      have HZ8 := Lib.hid (HZ.out.alloc (.cells #[.int .i64 ep, .slice CA bs.length cc] 102))
      have HB8 : Hid (Bxo (wr.alloc (.cells #[.int .i64 ep, .slice CA bs.length cc] 102)) wr.heap.size #[.int .i64 ep, .slice CA bs.length cc] 102) := Lib.hid (Bxo.new _ _ _)
      obtain ⟨W8, hW8⟩ : ∃ W8, W8 = wr.alloc (.cells #[.int .i64 ep, .slice CA bs.length cc] 102) := ⟨_, rfl⟩
      rw [← hW8] at HZ8 HB8
      rw [← hW8]
      have HNO : Hid (∀ k, v'.ownBlock = some k → k < wr.heap.size) := Lib.hid fun k e => (HZ.out.wr.ob.lt k e).2
      clear hW8 g0 g1
      have x0 : W8.cell? ⟨wr.heap.size, 0, none⟩ = some (.int .i64 ep) := HB8.out.cell rfl
      have xl := HB8.out.lt
      have HI8 := Lib.hid (wint_any ep HX64.out.1 HX64.out.2 K b v' pre W8 HZ8.out.wr (by omega))
      obtain ⟨p2, hp2⟩ : ∃ p2, p2 = pre ++ numB (zz ep) := ⟨_, rfl⟩
      rw [← hp2] at HI8
      have hp2l : p2.length + (numB bs.length).length + bs.length ≤ 100000000000000 := by rw [hp2, List.length_append]; omega
      have HP2 := Lib.hid hp2
      clear hp2
      go_wp2_with fail
      go_at_call 62
      refine HI8.out.mono ?_
      rintro e w9 ⟨v9, s9⟩
      obtain rfl := s9.e
      have HZ9 := Lib.hid (HZ8.out.step s9)
      have HB9 := Lib.hid (HB8.out.tn s9.tn (fun e => by
        rcases e with e | e
        · omega
        · have := HNO.out _ e; omega))
      have hbs := bs_str ((HE.out w9 _ _ HZ9.out).cm _ HXM.out) rfl
      simp only at hbs
      have HTX := Lib.hid (wtext_any (strB bs) K b v9 p2 w9 HZ9.out.wr (by rw [strB_size]; omega))
      obtain ⟨p3, hp3⟩ : ∃ p3, p3 = p2 ++ numB bs.length ++ bs := ⟨_, rfl⟩
      rw [strB_size, strB_toList, ← hp3] at HTX
      have HP3 := Lib.hid hp3
      clear s9 x0 xl hp3
      have x1 : w9.cell? ⟨wr.heap.size, 1, none⟩ = some (.slice CA bs.length cc) := HB9.out.cell rfl
      have xl := HB9.out.lt
      go_wp2_with fail
      go_at_call 113
      refine HTX.out.mono ?_
      rintro e w10 ⟨v10, s10⟩
      obtain rfl := s10.e
      have HZ10 := Lib.hid (HZ9.out.step s10)
      clear s10 hbs x1 xl
      go_wp2_with fail
      go_roundw
      case rel => exact ⟨j + 1, v10, hlt, by go_num, by
        have h9 := HZ10.out
        rw [HP3.out, HP2.out, HPRE.out] at h9
        rw [HT.out, ← List.append_assoc, ← List.append_assoc, ← List.append_assoc]
        exact h9⟩
      case measure => simp [intOf]; omega
    · have hjl : j = L.length := by omega
      subst hjl
      have HF : Hid (Wz w K b v (l ++ listB L) wr v') := Lib.hid (by
        have h9 := HZ.out
        rw [List.take_length, HM1.out, List.append_assoc] at h9
        exact h9)
      go_wp2_with fail
      go_end0
      exact ⟨rfl, v', HF.out⟩
def CenP (w : World) (ep : Int) (bs : List UInt8) (e : Ending) (w' : World) : Prop :=
  ∃ A' c', e = .returned (.agg #[.int .i64 ep, .slice A' bs.length c']) ∧ Ob w' w.heap.size (.slice A' bs.length c') bs ∧ Below w.heap.size w w'
set_option maxRecDepth 100000 in
set_option maxHeartbeats 1600000 in
theorem centry_any (ep : Int) (K0 : Nat) (A : Option Addr) (m cap : Nat) (bs : List UInt8) (w : World) (hn : bs.length = m) (hs : Bs w K0 A cap bs) (hK0 : K0 ≤ w.heap.size) (hl : bs.length ≤ 140737488355328) :
    Calls Try.prog 102 #[.agg #[.int .i64 ep, .slice A m cap]] w (CenP w ep bs) := by
  subst hn
  have hle := hs.le
  have hmax := hs.max
  unfold maxLen at hmax
  obtain ⟨W0, hW0⟩ : ∃ W0, W0 = (w.alloc (.cells #[.int .i64 ep, .slice A bs.length cap] 102)).alloc (.cells #[.int .i64 0, .slice none 0 0] 102) := ⟨_, rfl⟩
  have hb0 : Below w.heap.size w W0 := by rw [hW0]; exact ((Below.refl _ _).alloc (Nat.le_refl _) _).alloc (by simp) _
  have HX : Hid (Bxo W0 w.heap.size #[.int .i64 ep, .slice A bs.length cap] 102) := Lib.hid (by rw [hW0]; exact (Bxo.new w _ _).below ((Below.refl _ _).alloc (Nat.le_refl _) _))
  have HY : Hid (Bxo W0 (w.heap.size + 1) #[.int .i64 0, .slice none 0 0] 102) := Lib.hid (by
    rw [hW0]
    have := Bxo.new (w.alloc (.cells #[.int .i64 ep, .slice A bs.length cap] 102)) #[.int .i64 0, .slice none 0 0] 102
    simpa using this)
  have HC := Lib.hid (clone_any K0 A bs.length cap bs W0 rfl (hs.below (hb0.mono hK0)) (Nat.le_trans hK0 hb0.size) hl)
  have HB0 := Lib.hid hb0
  have hz : w.heap.size + 2 ≤ W0.heap.size := by rw [hW0]; simp
  have HWW := Lib.hid hW0
  have x0 : W0.cell? ⟨w.heap.size, 0, none⟩ = some (.int .i64 ep) := HX.out.cell rfl
  have x1 : W0.cell? ⟨w.heap.size, 1, none⟩ = some (.slice A bs.length cap) := HX.out.cell rfl
  have xl := HX.out.lt
  clear hs hb0 hW0
  go_enter Try.func102, Try.ntmps102
  go_upto_region 1 with fail
  rw [← HWW.out]
  go_wp2_with fail
  refine HC.out.mono ?_
  rintro e w1 ⟨A1, c1, rfl, so1, b1⟩
  have HS := Lib.hid so1
  have HB1 := Lib.hid (HB0.out.trans (b1.mono (by omega)))
  have HX1 := Lib.hid (HX.out.below b1)
  have HY1 := Lib.hid (HY.out.below b1)
  have y0 : w1.cell? ⟨w.heap.size, 0, none⟩ = some (.int .i64 ep) := HX1.out.cell rfl
  have y1 : w1.cell? ⟨w.heap.size, 1, none⟩ = some (.slice A bs.length cap) := HX1.out.cell rfl
  have yf := HX1.out.fr
  have yl := HX1.out.lt
  have hz1 : W0.heap.size ≤ w1.heap.size := b1.size
  have HNE : Hid (∀ c, (Value.slice A1 bs.length c1).ownBlock = some c → ¬ c = w.heap.size ∧ ¬ c = w.heap.size + 1) := Lib.hid fun c e => by
    have := (HS.out.lt c e).1
    omega
  clear so1 b1 x0 x1 xl
  go_upto_region 2 with fail
  have HX2 : Hid (Bxo (w1.setCell ⟨w.heap.size, 1, none⟩ (.slice A1 bs.length c1)) w.heap.size #[.int .i64 ep, .slice A1 bs.length c1] 102) := Lib.hid (HX1.out.set 1 _)
  have HY2 : Hid (Bxo (w1.setCell ⟨w.heap.size, 1, none⟩ (.slice A1 bs.length c1)) (w.heap.size + 1) #[.int .i64 0, .slice none 0 0] 102) := Lib.hid (HY1.out.other (by omega))
  have HS2 : Hid (Ob (w1.setCell ⟨w.heap.size, 1, none⟩ (.slice A1 bs.length c1)) W0.heap.size (.slice A1 bs.length c1) bs) := Lib.hid ((Tn.setCell w1 w.heap.size 1 _).ob HS.out (fun k e => (HNE.out k e).1))
  have HB2 : Hid (Below w.heap.size w (w1.setCell ⟨w.heap.size, 1, none⟩ (.slice A1 bs.length c1))) := Lib.hid (HB1.out.setCell (p := ⟨w.heap.size, 1, none⟩) (Nat.le_refl _) _)
  obtain ⟨W2, hW2⟩ : ∃ W2, W2 = w1.setCell ⟨w.heap.size, 1, none⟩ (.slice A1 bs.length c1) := ⟨_, rfl⟩
  rw [← hW2] at HX2 HY2 HS2 HB2
  rw [← hW2]
  clear hW2 y0 y1 yf yl HX1 HY1 HS HB1
  have x0 : W2.cell? ⟨w.heap.size, 0, none⟩ = some (.int .i64 ep) := HX2.out.cell rfl
  have x1 : W2.cell? ⟨w.heap.size, 1, none⟩ = some (.slice A1 bs.length c1) := HX2.out.cell rfl
  have xl := HX2.out.lt
  have z0 : W2.cell? ⟨w.heap.size + 1, 0, none⟩ = some (.int .i64 0) := HY2.out.cell rfl
  have z1 : W2.cell? ⟨w.heap.size + 1, 1, none⟩ = some (.slice none 0 0) := HY2.out.cell rfl
  have zl := HY2.out.lt
  have zf := HY2.out.fr
  go_wp2_with fail
  have s := (HY2.out.set 0 (.int .i64 ep)).set 1 (.slice A1 bs.length c1)
  have t0 := s.cell (i := 0) (v := .int .i64 ep) rfl
  have t1 := s.cell (i := 1) (v := .slice A1 bs.length c1) rfl
  exact bodyPost_ret (v := .agg #[.int .i64 ep, .slice A1 bs.length c1]) (by simp [results, Try.results102, go_sem, t0, t1]) rfl ⟨A1, c1, rfl, ((Tn.setCell _ (w.heap.size + 1) 1 _).ob ((Tn.setCell _ (w.heap.size + 1) 0 _).ob HS2.out (fun k e => (HNE.out k e).2)) (fun k e => (HNE.out k e).2)).moreB (by omega),
    (HB2.out.setCell (p := ⟨w.heap.size + 1, 0, none⟩) (Nat.le_succ _) _).setCell (p := ⟨w.heap.size + 1, 1, none⟩) (Nat.le_succ _) _⟩
end Go.Proofs.Ytpnhdocimjkakaa
