/- The law's Does for a crash. -/
import Derived.Test.YtpckbbjlihhpdaaRdV
namespace Go.Proofs.Ytpckbbjlihhpdaa
open Go.RowKit Go.BigFrame

theorem info_int : (Try.prog.info? 3).map (fun i => (i.zero, i.size, i.bytes)) = some (some (.int .i64 0), 1, 8) := by kernel_rfl
theorem encI_one (x : Int) : ∀ u ∈ encI x, u.oneCell' = true := by intro u hu; simp [encI] at hu; subst hu; rfl
section
variable {w W wx : World} {B C : Nat → Prop} {d m : Nat} {a b : Ad}
set_option maxRecDepth 100000 in
set_option maxHeartbeats 6400000 in
theorem does_4 {n : Int} {p : List UInt8} {ks : List Int} {A1 A2 : Option Addr} {c1 c2 : Nat} (sr : Sr encI 1 w w.heap.size A2 c2 ks) (hks : ks.length * 8 ≤ 140737488355328) (D : DD W B d a) (R : RD W C m a) (hB : ∀ k, B k → w.heap.size ≤ k) (hC : ∀ k, C k → w.heap.size ≤ k) (hBC : ∀ k, B k → ¬ C k) (hbl : Below w.heap.size w W) :
    Calls Try.prog 10 #[dP d, rP m, .agg #[.int .i64 4, .int .i64 n, .slice A1 p.length c1, .slice A2 ks.length c2]] W fun e w' => e = .returned (.bool true) ∧ Dz w d m w' := by
  have HL := Lib.hid D.lim
  have HJ : Hid (JJ (W.alloc (.cells #[.int .i64 4, .int .i64 n, .slice A1 p.length c1, .slice A2 ks.length c2] 33)) B C d m a a _) := Lib.hid (JJ.start (D.alloc _) (R.below ((Below.refl _ _).alloc (Nat.le_refl _) _)) hBC)
  have HX : Hid (∀ wx b c, JJ (W.alloc (.cells #[.int .i64 4, .int .i64 n, .slice A1 p.length c1, .slice A2 ks.length c2] 33)) B C d m b c wx → wx.cell? ⟨W.heap.size, 3, none⟩ = some (.slice A2 ks.length c2)) := Lib.hid fun wx b c J => by
    have hn : ¬ (B W.heap.size ∨ C W.heap.size) := fun h => h.elim (fun h => Nat.lt_irrefl _ (D.bt _ h)) fun h => Nat.lt_irrefl _ (R.bt _ h)
    exact J.tn.cell (by simp [go_sem]) hn
  have HB1 : Hid (Below w.heap.size w (W.alloc (.cells #[.int .i64 4, .int .i64 n, .slice A1 p.length c1, .slice A2 ks.length c2] 33))) := Lib.hid (hbl.alloc hbl.size _)
  have HB := Lib.hid hB
  have HC := Lib.hid hC
  have HSR := Lib.hid sr
  have hkl := sr.le
  have hkm := sr.max
  have hkx := hkm
  unfold maxLen at hkm
  clear D R hB hC hBC hbl sr
  go_enter Try.func10, Try.ntmps10
  go_wp2_with fail
  go_at_call 30
  refine (HJ.out.doc (r := 0) (b' := crashD a ks) (Q := fun e => e = .returned (.tuple #[])) fun C' R' _ => rcrash_RD R' HL.out (HSR.out.below HB1.out) HB1.out.size).mono ?_
  rintro e w2 ⟨rfl, J2⟩
  have x3 := HX.out _ _ _ J2
  have hzs : W.heap.size < w2.heap.size := World.block_lt_of_cell? w2 ⟨W.heap.size, 3, none⟩ x3
  have HB2 : Hid (Below w.heap.size w w2) := Lib.hid (J2.tn.bel HB1.out (fun k hk => hk.elim (HB.out k) (HC.out k)) (Nat.le_refl _))
  have HJ2 := Lib.hid J2
  have hz := HB2.out.size
  clear J2
  go_wp2_with (at_builtin; refine wpList_appE Try.underlying31 info_int rfl (by decide) encI_len encI_one _ rfl (.tmp 94) (.tmp 96) rfl w2.heap.size (.slice (some ⟨w2.heap.size, 0, none⟩) 0 0) [] rfl (lit_so w2 w2.heap.size _ w2.heap.size rfl (Nat.le_refl _) _ 0 [] encI_len rfl rfl (by decide)) A2 ks.length c2 ks rfl rfl w.heap.size ((HSR.out.below HB2.out).alloc hz _) ks.length (by simp) (by unfold maxLen; omega) hks (by simp) ?_; intro A3 c3 w3 ho3 gr3 at3; have b3 : Below w2.heap.size w2 w3 := grown_below ((Below.refl _ _).alloc (Nat.le_refl _) _) gr3 (by simp) (by simp [Value.ownBlock]))
  obtain ⟨B', C', D2, R2, h1, h2, h3⟩ := HJ2.out.ex
  have J3 : JJ w3 B' C' d m a (crashD a ks) w3 := JJ.start (D2.below b3) (R2.below b3) h3
  have HS3 := (ho3.sr encI_len).1
  have z1 := HB1.out.size
  have HR : Hid (∀ wy, JJ w3 B' C' d m (crashD a ks) (crashD a ks) wy → Dz w d m wy) := Lib.hid fun wy J => J.fin (HB2.out.trans (b3.mono hz)) (fun k hk => (h1 k hk).elim (HB.out k) fun h => by omega) (fun k hk => (h2 k hk).elim (HC.out k) fun h => by omega)
  go_at_call 24
  refine (J3.prog (r := 0) (a' := crashD a ks) fun B2 E2 hE => crash_DD E2 HS3 (Nat.le_refl _) (by simp) fun hl ad e hb => ?_).mono ?_
  · have h5 : w2.heap.size ≤ ad.block ∧ ad.block < w3.heap.size := ho3.lt ad.block (by rw [e]; rfl)
    rcases hE _ hb with h | h
    · have := D2.bt _ h
      omega
    · omega
  rintro e w9 ⟨rfl, J9⟩
  have HF := Lib.hid (HR.out _ J9)
  clear J9 J3 h1 h2 h3 HS3 ho3 gr3 at3 b3 D2 R2
  go_wp2_with fail
  go_ret
  exact ⟨rfl, HF.out⟩
end
end Go.Proofs.Ytpckbbjlihhpdaa
