/- The law DiskPlays: its walk. -/
import Derived.Test.YtpckbbjlihhpdaaRdI
import Derived.Test.YtpckbbjlihhpdaaRdT
import Derived.Test.YtpckbbjlihhpdaaDkOz
namespace Go.Proofs.Ytpckbbjlihhpdaa
open Go.RowKit Go.BigFrame

theorem new_bad (x : Int) (hx : x < 0 ∨ 67108864 < x) (w : World) : Calls Try.prog 8 #[.int .i64 x] w fun e w' => e = .returned (.tuple #[.pointer none, .int .i64 1]) ∧ w' = w := by
  go_enter Try.func8, Try.ntmps8
  by_cases h : x < 0
  · clear hx
    go_wp2
    exact bodyPost_ret (v := .tuple #[.pointer none, .int .i64 1]) (by simp [results, Try.results8, go_sem]) rfl ⟨rfl, rfl⟩
  · have h2 := hx.resolve_left h
    clear hx
    go_wp2
    exact bodyPost_ret (v := .tuple #[.pointer none, .int .i64 1]) (by simp [results, Try.results8, go_sem]) rfl ⟨rfl, rfl⟩
section
variable {w W W' : World} {d m : Nat}
theorem Dz.below (Z : Dz w d m W) (hb : Below W.heap.size W W') : Dz w d m W' := by
  obtain ⟨a, B, C, D, R, h1, h2, h3, b⟩ := Z
  exact ⟨a, B, C, D.below hb, R.below hb, h1, h2, h3, b.trans (hb.mono b.size)⟩
theorem Dz.bel (Z : Dz w d m W) : Below w.heap.size w W := by
  obtain ⟨a, B, C, D, R, h1, h2, h3, b⟩ := Z
  exact b
theorem Dz.is (Z : Dz w d m W) : Calls Try.prog 11 #[dP d, rP m] W fun e w' => e = .returned (.bool true) ∧ Dz w d m w' := by
  obtain ⟨a, B, C, D, R, h1, h2, h3, b⟩ := Z
  exact (is_any D R).mono fun e w' h => ⟨h.1, Dz.below ⟨a, B, C, D, R, h1, h2, h3, b⟩ h.2⟩
theorem Dz.does {o : Op7} {A1 A2 : Option Addr} {c1 c2 : Nat} (Z : Dz w d m W) (n1 : -9223372036854775808 ≤ o.n) (n2 : o.n ≤ 9223372036854775807) (bs : Bs w w.heap.size A1 c1 o.p) (hp : o.p.length ≤ 3000) (sr : Sr encI 1 w w.heap.size A2 c2 o.ks) (hks : o.ks.length * 8 ≤ 140737488355328) :
    Calls Try.prog 10 #[dP d, rP m, .agg #[.int .i64 o.k, .int .i64 o.n, .slice A1 o.p.length c1, .slice A2 o.ks.length c2]] W fun e w' => e = .returned (.bool true) ∧ Dz w d m w' := by
  obtain ⟨a, B, C, D, R, h1, h2, h3, b⟩ := Z
  obtain ⟨k, n, p, ks⟩ := o
  by_cases k0 : k = 0
  · subst k0
    exact does_0 n2 bs hp D R h1 h2 h3 b
  by_cases k1 : k = 1
  · exact does_12 (.inl k1) D R h1 h2 h3 b n1 n2
  by_cases k2 : k = 2
  · exact does_12 (.inr k2) D R h1 h2 h3 b n1 n2
  by_cases k3 : k = 3
  · subst k3
    exact does_3 n2 D R h1 h2 h3 b
  by_cases k4 : k = 4
  · subst k4
    exact does_4 sr hks D R h1 h2 h3 b
  exact does_none (by simpa using k0) (by simpa using k1) (by simpa using k2) (by simpa using k3) (by simpa using k4) D R h1 h2 h3 b
end
set_option maxRecDepth 100000 in
set_option maxHeartbeats 6400000 in
theorem dplays_any (x : Int) (A : Option Addr) (cap : Nat) (os : List Op7) (w : World) (ho : Os7 w w.heap.size A cap os) (hks : ∀ o ∈ os, o.ks.length * 8 ≤ 140737488351232) : Calls Try.prog 3 #[.int .i64 x, .slice A os.length cap] w (Ok0 w) := by
  have HO := Lib.hid ho
  have HKS := Lib.hid hks
  have hcl := ho.le
  have hcm := ho.max
  unfold maxLen at hcm
  clear ho hks
  go_enter Try.func3, Try.ntmps3
  go_wp2_with fail
  refine (dawake_any w).mono ?_
  rintro e w1 ⟨rfl, b1⟩
  have HB1 := Lib.hid b1
  have hz1 := b1.size
  clear b1
  by_cases hx : x < 0 ∨ 67108864 < x
  · have HN := Lib.hid (new_bad x hx w1)
    have q1 : decide (x < 0) = true ∨ (decide (x < 0) = false ∧ decide (67108864 < x) = true) := by
      by_cases h : x < 0
      · exact .inl (by simpa using h)
      · exact .inr ⟨by simpa using h, by simpa using hx.resolve_left h⟩
    clear hx
    go_wp2_with fail
    refine HN.out.mono ?_
    rintro e w2 ⟨rfl, hw⟩
    replace hw := hw.symm
    subst hw
    rcases q1 with q1 | ⟨q1, q2⟩
    all_goals
      go_wp2_with fail
      go_ret
      exact ⟨rfl, HB1.out⟩
  · have x1 : 0 ≤ x := by omega
    have x2 : x ≤ 67108864 := by omega
    have q1 : decide (x < 0) = false := by simpa using x1
    have q2 : decide (67108864 < x) = false := by simpa using x2
    clear hx
    go_wp2_with fail
    refine (new_DD x x1 x2 w1).mono ?_
    rintro e w2 ⟨rfl, ⟨B, D2, hB⟩, b2⟩
    have HD2 := Lib.hid D2
    have HB := Lib.hid hB
    have HB2 := Lib.hid b2
    have hz2 := b2.size
    clear D2 hB b2 x1 x2
    go_wp2_with fail
    refine (rnew_RD x w2).mono ?_
    rintro e w3 ⟨rfl, ⟨C, R3, hC⟩, b3⟩
    have HZ : Hid (Dz w (w1.heap.size + 1) w2.heap.size w3) := Lib.hid ⟨_, B, C, HD2.out.below b3, R3, fun k hk => Nat.le_trans hz1 (HB.out k hk), fun k hk => Nat.le_trans hz1 (Nat.le_trans hz2 (hC k hk)), fun k hk hc => by
      have h1 := HD2.out.bt k hk
      have h2 := hC k hc
      omega, HB1.out.trans ((HB2.out.trans (b3.mono hz2)).mono hz1)⟩
    clear R3 hC b3 HD2 HB HB2 HB1 q1 q2
    generalize w1.heap.size + 1 = d at HZ ⊢
    generalize w2.heap.size = m at HZ hz2 ⊢
    clear hz1 hz2
    go_wp2_with fail
    go_loopw [39] (fun iv wr => ∃ i : Nat, iv = .int .i64 (i : Int) ∧ i ≤ os.length ∧ Hid (Dz w d m wr)) (fun iv _ => os.length - (intOf iv).toNat)
    case atStart => exact ⟨0, rfl, Nat.zero_le _, HZ⟩
    case round =>
      obtain ⟨i, rfl, hi, Z⟩ := hrel
      rename World => W0
      clear HZ
      by_cases hlt : i < os.length
      · obtain ⟨ad, A1, c1, A2, c2, hA, X⟩ := HO.out.get (List.getElem?_eq_getElem hlt)
        subst hA
        have hk0 := HKS.out os[i] (List.getElem_mem hlt)
        generalize os[i] = o at X hk0
        have x0 := (Z.out.bel.cell X.lt).trans X.x0
        have x1 := (Z.out.bel.cell (p := ⟨_, _, none⟩) X.lt).trans X.x1
        have x2 := (Z.out.bel.cell (p := ⟨_, _, none⟩) X.lt).trans X.x2
        have x3 := (Z.out.bel.cell (p := ⟨_, _, none⟩) X.lt).trans X.x3
        have hpl := X.bs.le
        have hpm := X.bs.max
        unfold maxLen at hpm
        have i0 : 0 ≤ (i : Int) := by omega
        have i1 : (i : Int) < os.length := by omega
        have HX := Lib.hid X
        have HKO := Lib.hid hk0
        clear X hk0
        by_cases h60 : i < 60
        · have q60 : decide ((60 : Int) ≤ (i : Int)) = false := by simp; omega
          by_cases hp : o.p.length ≤ 3000
          · have qp : decide ((3000 : Int) < (o.p.length : Int)) = false := by simp; omega
            have HP := Lib.hid hp
            have HZX := Lib.hid (Z.out.below ((Below.refl _ _).alloc (Nat.le_refl _) (.cells #[.int .i64 o.k, .int .i64 o.n, .slice A1 o.p.length c1, .slice A2 o.ks.length c2] 33)))
            clear h60 hp
            go_wp2_with fail
            refine (HZX.out.does (o := o) HX.out.n1 HX.out.n2 HX.out.bs HP.out HX.out.sr (by have := HKO.out; omega)).mono ?_
            rintro e W2 ⟨rfl, Z2⟩
            have HZ2 := Lib.hid Z2
            clear Z2
            go_wp2_with fail
            refine HZ2.out.is.mono ?_
            rintro e W3 ⟨rfl, Z3⟩
            have HZ3 := Lib.hid Z3
            clear Z3
            go_wp2_with fail
            go_roundw
            case rel => exact ⟨i + 1, by go_num, hlt, HZ3⟩
            case measure => simp [intOf]; omega
          · have qp : decide ((3000 : Int) < (o.p.length : Int)) = true := by simp; omega
            have HZX := Lib.hid (Z.out.below ((Below.refl _ _).alloc (Nat.le_refl _) (.cells #[.int .i64 o.k, .int .i64 o.n, .slice A1 o.p.length c1, .slice A2 o.ks.length c2] 33)))
            clear h60 hp
            go_wp2_with fail
            go_ret
            exact ⟨rfl, HZX.out.bel⟩
        · have q60 : decide ((60 : Int) ≤ (i : Int)) = true := by simp; omega
          have HZX := Lib.hid (Z.out.below ((Below.refl _ _).alloc (Nat.le_refl _) (.cells #[.int .i64 o.k, .int .i64 o.n, .slice A1 o.p.length c1, .slice A2 o.ks.length c2] 33)))
          clear h60
          go_wp2_with fail
          go_ret
          exact ⟨rfl, HZX.out.bel⟩
      · have i1 : ¬ (i : Int) < os.length := by omega
        have HZB := Lib.hid Z.out.bel
        go_wp2_with fail
        go_ret
        exact ⟨rfl, HZB.out⟩
end Go.Proofs.Ytpckbbjlihhpdaa
