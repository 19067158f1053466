/- An answer in memory of the call's own: its rows, its notes. -/
import Derived.Test.YtcfbcidakddhfaaGreatDoorPr37
namespace Go.Proofs.YtcfbcidakddhfaaGreatDoor
open Go.RowKit Go.BigFrame

def mkN (op : Int) (rs : List Rp) (vs : List Int) (nt : Bool) : Qr := ⟨op, rs, vs.getD 0 0, vs.getD 1 0, vs.getD 2 0, nt⟩
theorem mkN_set {op : Int} {rs : List Rp} {vs : List Int} {nt : Bool} (A : Option Addr) (c : Nat) {k : Nat} (hl : vs.length = k) (hk : k < 3) (v : Int) : (qc (mkN op rs vs nt) A c).setIfInBounds (k + 2) (.int .i64 v) = qc (mkN op rs (vs ++ [v]) nt) A c := by
  subst hl
  match vs, hk with
  | [], _ => rfl
  | [a], _ => rfl
  | [a, b], _ => rfl
theorem mkN_note {op : Int} {rs : List Rp} {vs : List Int} {nt : Bool} (A : Option Addr) (c : Nat) (b : Bool) : (qc (mkN op rs vs nt) A c).setIfInBounds 5 (.bool b) = qc (mkN op rs vs b) A c := rfl
theorem mkN_get {op : Int} {rs : List Rp} {vs : List Int} {nt : Bool} (A : Option Addr) (c : Nat) {k : Nat} (hk : k < 3) : ∃ old, (qc (mkN op rs vs nt) A c)[k + 2]? = some (.int .i64 old) := by
  match k, hk with
  | 0, _ => exact ⟨_, rfl⟩
  | 1, _ => exact ⟨_, rfl⟩
  | 2, _ => exact ⟨_, rfl⟩
theorem kQ_len (op : Int) : kQ op ≤ 3 := by unfold kQ; split <;> omega
theorem ptrs_kQ (b : Nat) (op : Int) : (ptrsQ b op).size = kQ op := by unfold ptrsQ kQ; split <;> rfl
theorem ptrs_at {b k : Nat} {op : Int} (h : k < kQ op) : (ptrsQ b op)[k]? = some (.pointer (some ⟨b, k + 2, none⟩)) := by
  by_cases h0 : op = 0
  · have e1 : kQ op = 2 := if_pos h0
    have e2 : ptrsQ b op = #[.pointer (some ⟨b, 2, none⟩), .pointer (some ⟨b, 3, none⟩)] := if_pos h0
    rw [e1] at h
    rw [e2]
    match k, h with
    | 0, _ => rfl
    | 1, _ => rfl
  · have e1 : kQ op = 3 := if_neg h0
    have e2 : ptrsQ b op = #[.pointer (some ⟨b, 2, none⟩), .pointer (some ⟨b, 3, none⟩), .pointer (some ⟨b, 4, none⟩)] := if_neg h0
    rw [e1] at h
    rw [e2]
    match k, h with
    | 0, _ => rfl
    | 1, _ => rfl
    | 2, _ => rfl
/-- Behind k numbers: what is still to be read of the text. -/
structure Rk (N : Nat) (T : List UInt8) (k : Nat) (vs : List Int) (t : List UInt8) : Prop where
  len : vs.length = k
  le : k ≤ N
  eq : readX numA N T = (readX numA (N - k) t).map fun p => (vs ++ p.1, p.2)
theorem Rk.start (N : Nat) (T : List UInt8) : Rk N T 0 [] T := ⟨rfl, Nat.zero_le _, by simp⟩
theorem Rk.next {N k u : Nat} {T t : List UInt8} {vs : List Int} {v : Int} (h : Rk N T k vs t) (hk : k < N) (hn : numA t = some (v, u)) : Rk N T (k + 1) (vs ++ [v]) (t.drop u) :=
  ⟨by rw [List.length_append, h.len]; rfl, hk, by
    rw [h.eq, show N - k = (N - (k + 1)) + 1 by omega]
    cases hr : readX numA (N - (k + 1)) (t.drop u) with
    | none =>
      unfold readX
      rw [hn]
      simp only
      rw [hr]
      rfl
    | some p =>
      obtain ⟨ws, r⟩ := p
      rw [readX_mk hn hr]
      simp⟩
theorem Rk.stop {N k : Nat} {T t : List UInt8} {vs : List Int} (h : Rk N T k vs t) (hk : k < N) (hn : numA t = none) : readX numA N T = none := by
  rw [h.eq, show N - k = (N - (k + 1)) + 1 by omega]
  unfold readX
  rw [hn]
  rfl
theorem Rk.done {N k : Nat} {T t : List UInt8} {vs : List Int} (h : Rk N T k vs t) (hk : k = N) : readX numA N T = some (vs, t) := by
  rw [h.eq, hk, Nat.sub_self]
  simp [readX]
/-- What readRest leaves of the query in block b. -/
def RrP (w : World) (B b : Nat) (op : Int) (rs : List Rp) (A : Option Addr) (c : Nat) (x : Option (List Int × List UInt8)) (e : Ending) (w' : World) : Prop :=
  Below B w w' ∧ ((x = none ∧ e = .returned (.bool false)) ∨ ∃ vs r, x = some (vs, r) ∧ e = .returned (.bool (r == notesL || r == [])) ∧ Rwo w' b (qc (mkQ op rs vs r) A c) 36)
set_option maxRecDepth 100000 in
set_option maxHeartbeats 3200000 in
theorem readRest_any {B b : Nat} {op : Int} {rs : List Rp} {A : Option Addr} {c : Nat} (t : ByteArray) (w : World) (hs : t.size ≤ 1048576) (hx : Rwo w b (qc (mkN op rs [] false) A c) 36) (hB : B ≤ b) (hg0 : ∀ wx, Below B w wx → Mx wx ∧ Errs wx ∧ Pow wx) :
    Calls Tryz.prog 44 #[.pointer (some ⟨b, 0, none⟩), .string t] w (RrP w B b op rs A c (readX numA (kQ op) t.data.toList)) := by
  have HG := Lib.hid hg0
  have HX := Lib.hid hx
  have y0 : w.cell? ⟨b, 0, none⟩ = some (.int .i64 op) := hx.cell rfl
  have hbl := hx.lt
  have hBw : B ≤ w.heap.size := by omega
  obtain ⟨T, hT⟩ : ∃ T, T = t.data.toList := ⟨_, rfl⟩
  rw [← hT]
  have HR0 : Hid (Rk (kQ op) T 0 [] t.data.toList) := Lib.hid (by rw [← hT]; exact Rk.start _ _)
  have HS := Lib.hid hs
  clear hg0 hT hx hs
  go_enter Tryz.func44, Tryz.ntmps44
  go_wp2_with fail
  refine (numbersOf_any b op w y0).mono ?_
  rintro e w1 ⟨g, rfl, b1, hg, hr⟩
  have HX1 := Lib.hid (HX.out.below b1)
  have HR1 := Lib.hid hr
  have HB1 : Hid (Below B w w1) := Lib.hid (b1.mono hBw)
  have hgb : g ≠ b := by omega
  have HN := Lib.hid (ptrs_kQ b op)
  have HK3 := Lib.hid (kQ_len op)
  rw [HN.out]
  obtain ⟨N, hN⟩ : ∃ N, N = kQ op := ⟨_, rfl⟩
  have HPT : Hid (∀ k, k < N → (ptrsQ b op)[k]? = some (.pointer (some ⟨b, k + 2, none⟩))) := Lib.hid fun k h => ptrs_at (by omega)
  have HNN := Lib.hid hN
  rw [← hN] at HR0 HK3 ⊢
  clear b1 hr y0 HX hbl hN HN
  generalize ptrsQ b op = ps at HR1 HPT
  go_wp2_with fail
  go_loopw [1, 11] (fun sv iv wr => ∃ (k : Nat) (s : ByteArray) (vs : List Int), sv = .string s ∧ iv = .int .i64 (k : Int) ∧ k ≤ N ∧ Hid (s.size ≤ 1048576) ∧ Hid (Rk N T k vs s.data.toList) ∧ Hid (Rwo wr b (qc (mkN op rs vs false) A c) 36) ∧ Hid (Rwo wr g ps 137) ∧ Hid (Below B w wr)) (fun _ iv _ => N - (intOf iv).toNat)
  case atStart => exact ⟨0, t, [], rfl, rfl, Nat.zero_le _, HS, HR0, HX1, HR1, HB1⟩
  case round =>
    obtain ⟨k, s, vs, rfl, rfl, hk, HSZ, HRK, HXX, HRR, HBB⟩ := hrel
    rename World => W0
    clear HX1 HR1 HB1 HR0
    have i0 : 0 ≤ (k : Int) := by omega
    by_cases hlt : k < N
    · have i1 : (k : Int) < N := by omega
      have hk3 : k < 3 := by have := HK3.out; omega
      have pg := HPT.out k hlt
      have z0 := HRR.out.cell pg
      have zl := HRR.out.lt
      obtain ⟨old, hold⟩ := mkN_get (op := op) (rs := rs) (vs := vs) (nt := false) A c hk3
      have HC := Lib.hid (readNumber_any s W0 HSZ.out (HG.out _ HBB.out).1 (HG.out _ HBB.out).2.1 (HG.out _ HBB.out).2.2 HXX.out hold)
      have HLT := Lib.hid hlt
      have HK9 := Lib.hid hk3
      clear pg hold
      go_wp2_with fail
      refine HC.out.mono ?_
      rintro e W1 (⟨hn, rfl, hb⟩ | ⟨v, u, W2, hn, rfl, hb, rfl⟩)
      · have HF : Hid (readX numA (kQ op) T = none) := Lib.hid (HNN.out ▸ HRK.out.stop HLT.out hn)
        have HB2 : Hid (Below B w W1) := Lib.hid (HBB.out.trans (hb.mono (Nat.le_trans hBw HBB.out.size)))
        clear hn hb HC z0 zl
        go_wp2
        go_ret
        exact ⟨HB2.out, .inl ⟨HF.out, rfl⟩⟩
      · have hu := numA_used hn
        have hsl : s.data.toList.length = s.size := by simp
        have HR2 := Lib.hid (HRK.out.next HLT.out hn)
        have HX2 : Hid (Rwo (W2.setCell ⟨b, k + 2, none⟩ (.int .i64 v)) b (qc (mkN op rs (vs ++ [v]) false) A c) 36) := Lib.hid (by
          have h := (HXX.out.below hb).set (k + 2) (.int .i64 v)
          rwa [mkN_set A c HRK.out.len HK9.out] at h)
        have HRR2 : Hid (Rwo (W2.setCell ⟨b, k + 2, none⟩ (.int .i64 v)) g ps 137) := Lib.hid ((HRR.out.below hb).other hgb)
        have HB2 : Hid (Below B w (W2.setCell ⟨b, k + 2, none⟩ (.int .i64 v))) := Lib.hid ((HBB.out.trans (hb.mono (Nat.le_trans hBw HBB.out.size))).setCell (p := ⟨b, k + 2, none⟩) hB _)
        have u1 : ((u : Int) == (0 : Int)) = false := by have := hu.1; simp; omega
        have u2 : 0 ≤ (u : Int) := by omega
        have u3 : (u : Int) ≤ (s.size : Int) := by have := hu.2; rw [hsl] at this; omega
        have HS2 : Hid ((s.extract u s.size).size ≤ 1048576) := Lib.hid (by have := HSZ.out; rw [ex_size]; omega)
        have HL2 : Hid (Rk N T (k + 1) (vs ++ [v]) (s.extract u s.size).data.toList) := Lib.hid (by rw [ex_list]; exact HR2.out)
        have hs9 := HSZ.out
        clear hn hb HC z0 zl hu hsl HR2
        generalize (W2.setCell ⟨b, k + 2, none⟩ (.int .i64 v)) = W3 at HX2 HRR2 HB2 ⊢
        go_wp2_with fail
        go_roundw
        case rel => exact ⟨k + 1, s.extract u s.size, vs ++ [v], rfl, by go_num, HLT.out, HS2, HL2, HX2, HRR2, HB2⟩
        case measure => simp [intOf]; have := HLT.out; omega
    · have i1 : ¬ (k : Int) < N := by omega
      have hkN : k = N := by omega
      have HF0 : readX numA (kQ op) T = some (vs, s.data.toList) := HNN.out ▸ HRK.out.done hkN
      obtain ⟨r, hr⟩ : ∃ r, r = s.data.toList := ⟨_, rfl⟩
      rw [← hr] at HF0
      have HF := Lib.hid HF0
      have en : (s.toList == [32, 110, 111, 116, 101, 115]) = (r == notesL) := by rw [hr, Lib.toList_data]; rfl
      have ee : (s.toList == []) = (r == []) := by rw [hr, Lib.toList_data]
      have y5 : W0.cell? ⟨b, 5, none⟩ = some (.bool false) := HXX.out.cell rfl
      have yf := HXX.out.fr
      have yl := HXX.out.lt
      clear HF0 hr hkN
      cases h1 : (r == notesL) with
      | true =>
        rw [h1] at en
        have HX9 : Hid (Rwo (W0.setCell ⟨b, 5, none⟩ (.bool true)) b (qc (mkQ op rs vs r) A c) 36) := Lib.hid (by
          have h := HXX.out.set 5 (.bool true)
          rw [mkN_note] at h
          have e : mkN op rs vs true = mkQ op rs vs r := by unfold mkN mkQ; rw [h1]
          rwa [e] at h)
        have HB9 : Hid (Below B w (W0.setCell ⟨b, 5, none⟩ (.bool true))) := Lib.hid (HBB.out.setCell (p := ⟨b, 5, none⟩) hB _)
        have HE : Hid ((r == notesL || r == []) = true) := Lib.hid (by rw [h1]; rfl)
        clear ee h1
        go_wp2
        go_ret
        exact ⟨HB9.out, .inr ⟨vs, r, HF.out, by rw [HE.out]; rfl, HX9.out⟩⟩
      | false =>
        rw [h1] at en
        have HX9 : Hid (Rwo (W0.setCell ⟨b, 5, none⟩ (.bool false)) b (qc (mkQ op rs vs r) A c) 36) := Lib.hid (by
          have h := HXX.out.set 5 (.bool false)
          rw [mkN_note] at h
          have e : mkN op rs vs false = mkQ op rs vs r := by unfold mkN mkQ; rw [h1]
          rwa [e] at h)
        have HB9 : Hid (Below B w (W0.setCell ⟨b, 5, none⟩ (.bool false))) := Lib.hid (HBB.out.setCell (p := ⟨b, 5, none⟩) hB _)
        have HE : Hid ((r == notesL || r == []) = (r == [])) := Lib.hid (by rw [h1]; rfl)
        clear h1
        cases h2 : (r == []) with
        | true =>
          rw [h2] at ee
          have HE2 : Hid ((r == notesL || r == []) = true) := Lib.hid (by rw [HE.out, h2])
          clear h2
          go_wp2
          go_ret
          exact ⟨HB9.out, .inr ⟨vs, r, HF.out, by rw [HE2.out]; rfl, HX9.out⟩⟩
        | false =>
          rw [h2] at ee
          have HE2 : Hid ((r == notesL || r == []) = false) := Lib.hid (by rw [HE.out, h2])
          clear h2
          go_wp2
          go_ret
          exact ⟨HB9.out, .inr ⟨vs, r, HF.out, by rw [HE2.out]; rfl, HX9.out⟩⟩
end Go.Proofs.YtcfbcidakddhfaaGreatDoor
namespace Go.Proofs.YtcfbcidakddhfaaGreatDoor
open Go.RowKit

/-- A row, and where its set and its cells lie. -/
abbrev Rz := Rowq × (Option Addr × Nat) × (Option Addr × Nat)
def encRz (r : Rz) : List Value := [.slice r.2.1.1 r.1.1.length r.2.1.2, .slice r.2.2.1 r.1.2.length r.2.2.2]
theorem encRz_len (r : Rz) : (encRz r).length = 2 := rfl
theorem encRz_one (r : Rz) : ∀ u ∈ encRz r, u.oneCell' = true := by intro u hu; simp [encRz] at hu; rcases hu with rfl | rfl <;> rfl
theorem info_row : (Tryz.prog.info? 57).map (fun i => (i.zero, i.size, i.bytes)) = some (some (.agg #[.slice none 0 0, .slice none 0 0]), 2, 48) := by kernel_rfl
/-- v is a row of the call's own of rows, their sets and cells too. -/
structure Rg (w : World) (K : Nat) (v : Value) (l : List Rz) : Prop where
  so : So encRz 2 w K 57 v l
  st : ∀ r ∈ l, So encP 2 w K 54 (.slice r.2.1.1 r.1.1.length r.2.1.2) r.1.1
  ce : ∀ r ∈ l, So encSm 2 w K 121 (.slice r.2.2.1 r.1.2.length r.2.2.2) r.1.2
section
variable {w w' : World} {K K' : Nat} {v v' : Value} {l : List Rz}
theorem Rg.empty (w : World) (K : Nat) : Rg w K (.slice none 0 0) [] := ⟨So.empty _ _ _ _ _, (fun p hp => by cases hp), fun p hp => by cases hp⟩
theorem Rg.below (h : Rg w K v l) (hb : Below w.heap.size w w') : Rg w' K v l := ⟨h.so.below hb, fun p hp => (h.st p hp).below hb, fun p hp => (h.ce p hp).below hb⟩
theorem Rg.more (h : Rg w K v l) (hK : K' ≤ K) : Rg w K' v l := ⟨h.so.more hK, fun p hp => (h.st p hp).more hK, fun p hp => (h.ce p hp).more hK⟩
theorem Rg.keepO {β : Type} {e2 : β → List Value} {k2 K2 : Nat} {R : TypeId} {u : Value} {m : List β} (h : Rg w K v l) (g : So e2 k2 w K2 R u m) (h1 : 57 ≠ R) (h2 : 54 ≠ R) (h3 : 121 ≠ R) (hg : w.grownBy w' u.ownBlock) : Rg w' K v l :=
  ⟨h.so.keepO g h1 hg, fun p hp => (h.st p hp).keepO g h2 hg, fun p hp => (h.ce p hp).keepO g h3 hg⟩
theorem Rg.push (h : Rg w K v l) {r : Rz} (hs : So encP 2 w K 54 (.slice r.2.1.1 r.1.1.length r.2.1.2) r.1.1) (hc : So encSm 2 w K 121 (.slice r.2.2.1 r.1.2.length r.2.2.2) r.1.2)
    (hg : w.grownBy w' v.ownBlock) (hn : So encRz 2 w' K 57 v' (l ++ [r])) : Rg w' K v' (l ++ [r]) :=
  ⟨hn, fun q hq => by
    rcases List.mem_append.1 hq with h1 | h1
    · exact (h.st q h1).keepO h.so (by decide) hg
    · obtain rfl := List.mem_singleton.1 h1
      exact hs.keepO h.so (by decide) hg, fun q hq => by
    rcases List.mem_append.1 hq with h1 | h1
    · exact (h.ce q h1).keepO h.so (by decide) hg
    · obtain rfl := List.mem_singleton.1 h1
      exact hc.keepO h.so (by decide) hg⟩
end
/-- A box is none of a row's blocks: their types are unlike. -/
theorem So.nebox {α : Type} {e1 : α → List Value} {k1 K1 : Nat} {w : World} {T S : TypeId} {v : Value} {l : List α} {b : Nat} {cs : Array Value} (h : So e1 k1 w K1 T v l) (g : Rwo w b cs S) (hT : T ≠ S) : v.ownBlock = none ∨ v.ownBlock ≠ some b := by
  rcases h.2 with ⟨e, _⟩ | ⟨b2, cap, cur, e, _, hb, _⟩
  · subst e; exact .inl rfl
  · subst e
    right
    intro hk
    simp only [Value.ownBlock, Option.some.injEq] at hk
    subst hk
    have := g.hp
    rw [hb] at this
    injection this with this
    injection this with _ e3 _
    exact hT e3
theorem So.nebox2 {α : Type} {e1 : α → List Value} {k1 K1 : Nat} {w : World} {T S : TypeId} {v : Value} {l : List α} {b : Nat} {cs : Array Value} (h : So e1 k1 w K1 T v l) (g : Rwo w b cs S) (hT : T ≠ S) : some b ≠ v.ownBlock := fun e => by
  rcases h.nebox g hT with h1 | h1
  · rw [h1] at e; cases e
  · exact h1 e.symm
theorem Rwo.grown {w w' : World} {g : Nat} {cs : Array Value} {T : TypeId} (h : Rwo w g cs T) {row : Option Nat} (hg : w.grownBy w' row) (hn : some g ≠ row) : Rwo w' g cs T := ⟨(hg.block g h.lt hn).trans h.hp⟩
abbrev ceA (A1 A2 : Option Addr) (n1 n2 c1 c2 : Nat) : Array Value := #[.slice A1 n1 c1, .slice A2 n2 c2]
/-- The answer in box b: rows at A1, notes at A2. -/
structure An (w : World) (K b : Nat) (A1 A2 : Option Addr) (c1 c2 : Nat) (rows : List Rz) (notes : List Pz) : Prop where
  bx : Rwo w b (ceA A1 A2 rows.length notes.length c1 c2) 30
  rg : Rg w K (.slice A1 rows.length c1) rows
  pw : Pw w K 52 54 (.slice A2 notes.length c2) notes
section
variable {w w' : World} {K b c1 c2 : Nat} {A1 A2 : Option Addr} {rows : List Rz} {notes : List Pz}
theorem An.below (h : An w K b A1 A2 c1 c2 rows notes) (hb : Below w.heap.size w w') : An w' K b A1 A2 c1 c2 rows notes := ⟨h.bx.below hb, h.rg.below hb, h.pw.below hb⟩
theorem Rg.set (h : Rg w K (.slice A1 rows.length c1) rows) {cs : Array Value} (g : Rwo w b cs 30) (i : Nat) (u : Value) : Rg (w.setCell ⟨b, i, none⟩ u) K (.slice A1 rows.length c1) rows :=
  ⟨h.so.keep (grown_set _ _ _ _) (h.so.nebox g (by decide)), fun p hp => (h.st p hp).keep (grown_set _ _ _ _) ((h.st p hp).nebox g (by decide)), fun p hp => (h.ce p hp).keep (grown_set _ _ _ _) ((h.ce p hp).nebox g (by decide))⟩
theorem Pw.setA {v : Value} {l : List Pz} (h : Pw w K 52 54 v l) {cs : Array Value} (g : Rwo w b cs 30) (i : Nat) (u : Value) : Pw (w.setCell ⟨b, i, none⟩ u) K 52 54 v l :=
  ⟨h.so.keep (grown_set _ _ _ _) (h.so.nebox g (by decide)), fun p hp => (h.st p hp).keep (grown_set _ _ _ _) ((h.st p hp).nebox g (by decide))⟩
end
end Go.Proofs.YtcfbcidakddhfaaGreatDoor
