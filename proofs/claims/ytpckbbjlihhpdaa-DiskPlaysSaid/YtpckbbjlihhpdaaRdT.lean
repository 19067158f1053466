/- The law's Does for an append. -/
import Derived.Test.YtpckbbjlihhpdaaRdU
import Derived.Test.YtpckbbjlihhpdaaRdA
namespace Go.Proofs.Ytpckbbjlihhpdaa
open Go.RowKit Go.BigFrame

theorem far_b {w : World} {K c : Nat} {A : Option Addr} {p : List UInt8} {B : Nat → Prop} (h : Bs w K A c p) (hB : ∀ k, B k → K ≤ k) : 0 < p.length → ∀ ad : Addr, A = some ad → ¬ B ad.block := fun hl ad e hb => by
  obtain ⟨ad', e', hk, _⟩ := h.at_ hl
  rw [e] at e'
  cases e'
  have := hB _ hb
  omega
section
variable {w W wx : World} {B C : Nat → Prop} {d m : Nat} {a b : Ad}
set_option maxRecDepth 100000 in
set_option maxHeartbeats 6400000 in
theorem does_0 {n : Int} {p : List UInt8} {ks : List Int} {A1 A2 : Option Addr} {c1 c2 : Nat} (n2 : n ≤ 9223372036854775807) (bs : Bs w w.heap.size A1 c1 p) (hp : p.length ≤ 3000) (D : DD W B d a) (R : RD W C m a) (hB : ∀ k, B k → w.heap.size ≤ k) (hC : ∀ k, C k → w.heap.size ≤ k) (hBC : ∀ k, B k → ¬ C k) (hbl : Below w.heap.size w W) :
    Calls Try.prog 10 #[dP d, rP m, .agg #[.int .i64 0, .int .i64 n, .slice A1 p.length c1, .slice A2 ks.length c2]] W fun e w' => e = .returned (.bool true) ∧ Dz w d m w' := by
  have HL := Lib.hid D.lim
  have HD1 := Lib.hid (D.alloc (.cells #[.int .i64 0, .int .i64 n, .slice A1 p.length c1, .slice A2 ks.length c2] 33))
  have HR1 := Lib.hid (R.below ((Below.refl W.heap.size W).alloc (Nat.le_refl _) (.cells #[.int .i64 0, .int .i64 n, .slice A1 p.length c1, .slice A2 ks.length c2] 33)))
  have hnB : ¬ (B W.heap.size ∨ C W.heap.size) := fun h => h.elim (fun h => Nat.lt_irrefl _ (D.bt _ h)) fun h => Nat.lt_irrefl _ (R.bt _ h)
  have HNB := Lib.hid hnB
  have HB1 : Hid (Below w.heap.size w (W.alloc (.cells #[.int .i64 0, .int .i64 n, .slice A1 p.length c1, .slice A2 ks.length c2] 33))) := Lib.hid (hbl.alloc hbl.size _)
  have x1 : (W.alloc (.cells #[.int .i64 0, .int .i64 n, .slice A1 p.length c1, .slice A2 ks.length c2] 33)).cell? ⟨W.heap.size, 1, none⟩ = some (.int .i64 n) := by simp [go_sem]
  have x2 : (W.alloc (.cells #[.int .i64 0, .int .i64 n, .slice A1 p.length c1, .slice A2 ks.length c2] 33)).cell? ⟨W.heap.size, 2, none⟩ = some (.slice A1 p.length c1) := by simp [go_sem]
  have hzs : W.heap.size < (W.alloc (.cells #[.int .i64 0, .int .i64 n, .slice A1 p.length c1, .slice A2 ks.length c2] 33)).heap.size := by simp
  have HB := Lib.hid hB
  have HC := Lib.hid hC
  have HBC := Lib.hid hBC
  have HBS := Lib.hid bs
  have hpl := bs.le
  have hpm := bs.max
  unfold maxLen at hpm
  obtain ⟨r, a', hr⟩ : ∃ r a', appD a n p = (r, a') := ⟨_, _, rfl⟩
  have HRR := Lib.hid hr
  clear D R hB hC hBC hbl bs hr hnB
  go_enter Try.func10, Try.ntmps10
  go_upto_region 3 with fail
  generalize W.alloc (.cells #[.int .i64 0, .int .i64 n, .slice A1 p.length c1, .slice A2 ks.length c2] 33) = W1 at HD1 HR1 HB1 x1 x2 hzs ⊢
  have hz1 := HB1.out.size
  go_wp2_with (at_builtin; refine wpList_app _ rfl (.tmp 14) (.tmp 16) rfl W1.heap.size (.slice (some ⟨W1.heap.size, 0, none⟩) 0 0) [] rfl (lit_ob W1 W1.heap.size W1.heap.size rfl (Nat.le_refl _) #[] 0 [] rfl rfl (by decide)) A1 p.length c1 p rfl rfl w.heap.size ((HBS.out.below HB1.out).alloc hz1 _) p.length (by simp) (by simp; omega) (by simp) ?_; intro A3 c3 w2 ho3 gr3 at3; have b3 : Below W1.heap.size W1 w2 := grown_below ((Below.refl _ _).alloc (Nat.le_refl _) _) gr3 (by simp) (by simp [Value.ownBlock]); have y1 := kept b3 x1; have y2 := kept b3 x2; have hz3 : W.heap.size < w2.heap.size := Nat.lt_of_lt_of_le hzs b3.size)
  have J2 : JJ w2 B C d m a a w2 := JJ.start (HD1.out.below b3) (HR1.out.below b3) HBC.out
  have HO3 := Lib.hid ho3
  have HB3 := Lib.hid b3
  go_at_call 22
  refine (J2.prog (r := r) (a' := a') fun B' D' hE => app_DD D' n2 HO3.out.bs.1 rfl (fun hl ad e hb => ?_) HRR.out).mono ?_
  · have h5 := own_block HO3.out hl e rfl
    have h6 := (HO3.out.lt _ h5.2).2
    rcases hE _ hb with h | h
    · have := HD1.out.bt _ h
      omega
    · omega
  rintro e w3 ⟨rfl, J3⟩
  have hfar : ∀ k, (Value.slice A3 p.length c3).ownBlock = some k → ¬ (B k ∨ C k) := fun k hk h => by
    have h5 := (HO3.out.lt k hk).1
    rcases h with h | h
    · have := HD1.out.bt _ h
      omega
    · have := HR1.out.bt _ h
      omega
  have HO4 := Lib.hid (J3.tn.ob ho3 hfar)
  have z1 := J3.tn.cell y1 HNB.out
  have z2 := J3.tn.cell y2 HNB.out
  have hz4 : W.heap.size < w3.heap.size := Nat.lt_of_lt_of_le hz3 J3.tn.size
  have HJ3 := Lib.hid J3
  have HF := Lib.hid hfar
  have hcl := ho3.bs.1.le
  have hcm := ho3.bs.1.max
  unfold maxLen at hcm
  clear J2 J3 hfar ho3 b3 gr3 at3 y1 y2 x1 x2 hz3
  go_wp2_with fail
  go_loopw [25] (fun iv wr => ∃ i : Nat, iv = .int .i64 (i : Int) ∧ i ≤ p.length ∧ Hid (Tn (fun k => (Value.slice A3 p.length c3).ownBlock = some k) w3 wr) ∧ Hid (∀ g, A3 = some ⟨g, 0, none⟩ → (∀ j (hj : j < p.length), i ≤ j → wr.cell? ⟨g, j, none⟩ = some (bv p[j])) ∧ ∀ j, j < p.length → wr.frozen? ⟨g, j, none⟩ = false)) (fun iv _ => p.length - (intOf iv).toNat)
  case atStart => exact ⟨0, rfl, Nat.zero_le _, Lib.hid (Tn.refl _ _), Lib.hid fun g hg => by
    subst hg
    exact ⟨fun j hj _ => (HO4.out.slot hj).1, fun j hj => (HO4.out.slot hj).2.1⟩⟩
  case round =>
    obtain ⟨i, rfl, hi, HT, HCELL⟩ := hrel
    rename World => wr
    by_cases hlt : i < p.length
    · obtain ⟨g, hg, _⟩ := HO4.out.addr (by omega)
      subst hg
      have i1 : (i : Int) < p.length := by omega
      have v1 : wr.cell? ⟨g, i, none⟩ = some (.int .u8 (p[i].toNat : Int)) := (HCELL.out g rfl).1 i hlt (Nat.le_refl _)
      have v2 := (HCELL.out g rfl).2 i hlt
      have HN : ∀ v, Hid (Tn (fun k => (Value.slice (some ⟨g, 0, none⟩) p.length c3).ownBlock = some k) w3 (wr.setCell ⟨g, i, none⟩ v)) := fun v => Lib.hid (HT.out.thenQ (Tn.setCell wr g i v) fun k _ e => by have h9 : k = g := e; subst h9; rfl)
      have HM : ∀ v, Hid (∀ g', some (⟨g, 0, none⟩ : Addr) = some ⟨g', 0, none⟩ → (∀ j (hj : j < p.length), i + 1 ≤ j → (wr.setCell ⟨g, i, none⟩ v).cell? ⟨g', j, none⟩ = some (bv p[j])) ∧ ∀ j, j < p.length → (wr.setCell ⟨g, i, none⟩ v).frozen? ⟨g', j, none⟩ = false) := fun v => Lib.hid fun g' hg' => by
        cases hg'
        refine ⟨fun j hj hij => ?_, fun j hj => ?_⟩
        · have h1 := (HCELL.out g rfl).1 j hj (by omega)
          simp [go_sem, h1]
        · have h1 := (HCELL.out g rfl).2 j hj
          simp [go_sem, h1]
      have HNh := Lib.hid HN
      have HMh := Lib.hid HM
      clear HN HM HCELL HT
      generalize p[i] = x at v1
      go_wp2_with fail
      go_roundw
      case rel => exact ⟨i + 1, by go_num, by omega, HNh.out _, HMh.out _⟩
      case measure => simp [intOf]; omega
    · have hil : ¬ (i : Int) < p.length := by omega
      have t4 := HT.out
      obtain ⟨B', C', D3, R3, h1, h2, h3⟩ := HJ3.out.ex
      have hoB : ∀ k, (Value.slice A3 p.length c3).ownBlock = some k → ¬ B' k ∧ ¬ C' k := fun k hk => by
        have h5 := (HO3.out.lt k hk).2
        refine ⟨fun h => (h1 k h).elim (fun h => HF.out k hk (.inl h)) fun h => by omega, fun h => (h2 k h).elim (fun h => HF.out k hk (.inr h)) fun h => by omega⟩
      have J4 : JJ wr B' C' d m a' a wr := JJ.start (D3.tn t4 fun k hk hb => (hoB k hb).1 hk) (R3.tn t4 fun k hk hb => (hoB k hb).2 hk) h3
      have b2 : Below w.heap.size w w2 := HB1.out.trans (HB3.out.mono hz1)
      have b3 : Below w.heap.size w w3 := HJ3.out.tn.bel b2 (fun k hk => hk.elim (HB.out k) (HC.out k)) (Nat.le_refl _)
      have b4 : Below w.heap.size w wr := t4.bel b3 (fun k hk => by have := (HO3.out.lt k hk).1; omega) (Nat.le_refl _)
      have hs2 := b2.size
      have HB4 : Hid (∀ k, B' k → w.heap.size ≤ k) := Lib.hid fun k hk => (h1 k hk).elim (HB.out k) fun h => by omega
      have HC4 : Hid (∀ k, C' k → w.heap.size ≤ k) := Lib.hid fun k hk => (h2 k hk).elim (HC.out k) fun h => by omega
      have q1 := t4.cell z1 fun h => by have := (HO3.out.lt _ h).1; simp only at this; omega
      have q2 := t4.cell z2 fun h => by have := (HO3.out.lt _ h).1; simp only at this; omega
      have HJ4 := Lib.hid J4
      have HB5 := Lib.hid b4
      have hs4 := b4.size
      clear HT HCELL t4 D3 R3 h1 h2 h3 hoB J4 b2 b3 b4 z1 z2
      go_wp2_with fail
      go_at_call 26
      refine (HJ4.out.doc (r := r) (b' := a') (Q := fun e => e = .returned (.int .i64 r)) fun C2 R2 hE => (rappend_RD R2 HL.out (HBS.out.below HB5.out) hs4 (far_b (HBS.out.below HB5.out) fun k hk => (hE k hk).elim (HC4.out k) fun h => by omega) HRR.out).mono fun e w' h => ⟨h.1, rfl, h.2⟩).mono ?_
      rintro e w9 ⟨rfl, J9⟩
      have HF9 := Lib.hid (J9.fin HB5.out HB4.out HC4.out)
      clear J9
      go_wp2_with fail
      go_ret
      exact ⟨rfl, HF9.out⟩
end
end Go.Proofs.Ytpckbbjlihhpdaa
