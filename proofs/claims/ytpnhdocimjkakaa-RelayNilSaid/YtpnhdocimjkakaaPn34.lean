/- A relay: others. -/
import Derived.Test.YtpnhdocimjkakaaPn33
namespace Go.Proofs.Ytpnhdocimjkakaa
open Go.RowKit Go.BigFrame Go.Maps

def stB (ii n : Int) : Bool := !(n == ii)
set_option maxHeartbeats 400000 in
theorem goneO_any (b r : Nat) (ii : Int) (n : Int) (w : World) (hc : w.cell? ⟨b, 0, none⟩ = some (.pointer (some ⟨r, 0, none⟩))) (hm : w.cell? ⟨r, 0, none⟩ = some (.int .i64 ii)) :
    Calls Try.prog 123 #[.int .i64 n, .pointer (some ⟨b, 0, none⟩)] w fun e w' => e = .returned (.bool (!stB ii n)) ∧ w = w' := by
  go_enter Try.func123, Try.ntmps123
  go_wp2_with fail
  go_ret
  exact ⟨by unfold stB; simp, rfl⟩

/-- How many stand ahead of the first who goes. -/
def stayO (ii : Int) (l : List Int) : Nat := (l.takeWhile fun n => stB ii n).length
theorem stayO_at {ii : Int} : ∀ {l : List Int} {k : Nat} (hk : k < l.length), (∀ j (hj : j < l.length), j < k → stB ii l[j] = true) → stB ii l[k] = false → stayO ii l = k
  | x :: l, 0, _, _, h0 => by
    unfold stayO
    simp only [List.getElem_cons_zero] at h0
    rw [List.takeWhile_cons, h0]; rfl
  | x :: l, k + 1, hk, h, h0 => by
    have hx := h 0 (by simp) (by omega)
    simp only [List.getElem_cons_zero] at hx
    have := stayO_at (l := l) (k := k) (by simpa using hk) (fun j hj hjk => by have := h (j + 1) (by simp; omega) (by omega); simpa using this) (by simpa using h0)
    unfold stayO at this ⊢
    rw [List.takeWhile_cons, hx]
    simp [this]
theorem stayO_all {ii : Int} {l : List Int} (h : ∀ j (hj : j < l.length), stB ii l[j] = true) : l.filter (fun n => stB ii n) = l :=
  List.filter_eq_self.2 fun x hx => by
    obtain ⟨j, hj, rfl⟩ := List.getElem_of_mem hx
    exact h j hj
def GoneO (ii : Int) (l : List Int) (w : World) (e : Ending) (w' : World) : Prop :=
  w = w' ∧ ((e = .returned (.int .i64 (-1)) ∧ l.filter (fun n => stB ii n) = l) ∨ ∃ k : Nat, e = .returned (.int .i64 (k : Int)) ∧ k < l.length ∧ (l.take k).filter (fun n => stB ii n) = l.take k ∧ (l.take (k + 1)).filter (fun n => stB ii n) = l.take k)
set_option maxRecDepth 100000 in
set_option maxHeartbeats 1600000 in
theorem firstout_any (b r : Nat) (ii : Int) (K : Nat) (A : Option Addr) (n cap : Nat) (l : List Int) (w : World) (hn : l.length = n) (hp : Sr encI 1 w K A cap l)
    (hc : w.cell? ⟨b, 0, none⟩ = some (.pointer (some ⟨r, 0, none⟩))) (hm : w.cell? ⟨r, 0, none⟩ = some (.int .i64 ii)) :
    Calls Try.prog 130 #[.slice A n cap, .func (.func 123) #[] #[.pointer (some ⟨b, 0, none⟩)]] w (GoneO ii l w) := by
  subst hn
  have hle := hp.le
  have hmax := hp.max
  unfold maxLen at hmax
  have HP := Lib.hid hp
  have HG := Lib.hid (fun n => goneO_any b r ii n w hc hm)
  clear hp hc hm
  go_enter Try.func130, Try.ntmps130
  go_wp2
  go_loop [8] (fun i => ∃ (k : Nat), k ≤ l.length ∧ i = .int .i64 k ∧ Hid (∀ j (hj : j < l.length), j < k → stB ii l[j] = true)) (fun i => l.length - (intOf i).toNat)
  case atStart => exact ⟨0, Nat.zero_le _, rfl, Lib.hid (fun j _ h => absurd h (by omega))⟩
  case round =>
    obtain ⟨k, hk, rfl, HJ⟩ := hrel
    by_cases hlt : k < l.length
    · obtain ⟨ad, rfl, hadK, hcell⟩ := HP.out.int hlt
      have HX : Hid (∀ x, l[k] = x → (stB ii x = true → ∀ j (hj : j < l.length), j < k + 1 → stB ii l[j] = true) ∧ (stB ii x = false → (l.take k).filter (fun n => stB ii n) = l.take k ∧ (l.take (k + 1)).filter (fun n => stB ii n) = l.take k)) := Lib.hid (fun x hx => ⟨fun hT j hj hjk => by
          by_cases e : j = k
          · subst e; rw [hx]; exact hT
          · exact HJ.out j hj (by omega), fun hF => by
          have e1 : (l.take k).filter (fun n => stB ii n) = l.take k := stayO_all fun j hj => by
            rw [List.getElem_take]
            exact HJ.out j (by rw [List.length_take] at hj; omega) (by rw [List.length_take] at hj; omega)
          refine ⟨e1, ?_⟩
          rw [take_snocI l k hlt, List.filter_append, e1, hx]
          simp [hF]⟩)
      generalize hxx : l[k] = x at *
      have HXX := Lib.hid (HX.out x rfl)
      clear HX hxx
      have HA := Lib.hid (HG.out x)
      cases hd : stB ii x with
      | true =>
        rw [hd] at HA
        have HI := Lib.hid (HXX.out.1 hd)
        clear hd HXX
        go_wp2_with (go_at_call 123; refine HA.out.mono ?_; rintro e w1 ⟨rfl, rfl⟩)
        go_round
        case rel => exact ⟨k + 1, by omega, by go_num, Lib.hid HI.out⟩
        case measure => simp [intOf]; omega
      | false =>
        rw [hd] at HA
        have HI := Lib.hid (HXX.out.2 hd)
        clear hd HXX
        go_wp2_with (go_at_call 123; refine HA.out.mono ?_; rintro e w1 ⟨rfl, rfl⟩)
        go_ret
        exact ⟨rfl, .inr ⟨k, rfl, hlt, HI.out⟩⟩
    · have hkl : k = l.length := by omega
      subst hkl
      have HI : Hid (l.filter (fun n => stB ii n) = l) := Lib.hid (stayO_all fun j hj => HJ.out j hj hj)
      go_wp2
      go_ret
      exact ⟨rfl, .inl ⟨rfl, HI.out⟩⟩

def DelO (ii : Int) (l : List Int) (K g cap : Nat) (w : World) (e : Ending) (w' : World) : Prop :=
  ∃ m, e = .returned (.slice (some ⟨g, 0, none⟩) m cap) ∧ So encI 1 w' K 3 (.slice (some ⟨g, 0, none⟩) m cap) (l.filter fun n => stB ii n) ∧ Tn (· = g) w w'
set_option maxRecDepth 100000 in
set_option maxHeartbeats 3200000 in
theorem delout_any (b r : Nat) (ii : Int) (K g n cap : Nat) (l : List Int) (w : World) (so : So encI 1 w K 3 (.slice (some ⟨g, 0, none⟩) n cap) l)
    (hc : w.cell? ⟨b, 0, none⟩ = some (.pointer (some ⟨r, 0, none⟩))) (hm : w.cell? ⟨r, 0, none⟩ = some (.int .i64 ii)) (hbg : b ≠ g) (hrg : r ≠ g) :
    Calls Try.prog 118 #[.slice (some ⟨g, 0, none⟩) n cap, .func (.func 123) #[] #[.pointer (some ⟨b, 0, none⟩)]] w (DelO ii l K g cap w) := by
  obtain rfl := so.lenI
  have hle := (so.sr encI_len).1.le
  have hmax := (so.sr encI_len).1.max
  unfold maxLen at hmax
  have HS := Lib.hid so
  have HF := Lib.hid (firstout_any b r ii w.heap.size (some ⟨g, 0, none⟩) l.length cap l w rfl (so.sr encI_len).1 hc hm)
  have HG : Hid (∀ W, Tn (· = g) w W → ∀ n, Calls Try.prog 123 #[.int .i64 n, .pointer (some ⟨b, 0, none⟩)] W fun e w' => e = .returned (.bool (!stB ii n)) ∧ W = w') :=
    Lib.hid (fun W t n => goneO_any b r ii n W (t.cell hc hbg) (t.cell hm hrg))
  clear so hc hm
  go_enter Try.func118, Try.ntmps118
  go_wp2_with fail
  refine HF.out.mono ?_
  rintro e w1 ⟨rfl, ⟨rfl, hall⟩ | ⟨k, rfl, hk, hk1, hk2⟩⟩
  · have HA := Lib.hid hall
    clear hall
    go_wp2_with fail
    go_ret
    exact ⟨_, rfl, by rw [HA.out]; exact HS.out, Tn.refl _ _⟩
  · have h1 : ((k : Int) == -1) = false := by simp
    have HK1 := Lib.hid hk1
    have HK2 := Lib.hid hk2
    clear hk1 hk2
    go_wp2_with fail
    go_loopw [5, 6] (fun iv jv wr => ∃ (i j : Nat) (L : List Int), iv = .int .i64 (i : Int) ∧ jv = .int .i64 (j : Int) ∧ i < j ∧ j ≤ l.length ∧ L.length = l.length ∧ So encI 1 wr K 3 (.slice (some ⟨g, 0, none⟩) l.length cap) L ∧ Hid (L.take i = (l.take j).filter fun n => stB ii n) ∧ Hid (∀ q, j ≤ q → L[q]? = l[q]?) ∧ Tn (· = g) w wr) (fun _ jv _ => l.length - (intOf jv).toNat)
    case atStart => exact ⟨k, k + 1, l, rfl, by go_num, by omega, by omega, rfl, HS.out, Lib.hid HK2.out.symm, Lib.hid fun _ _ => rfl, Tn.refl _ _⟩
    case round =>
      obtain ⟨i, j, L, rfl, rfl, hij, hj, hL, hso, HT, HD, htn⟩ := hrel
      rename World => W0
      have HSO := Lib.hid hso
      have HTN := Lib.hid htn
      clear hso htn
      have hi0 : 0 ≤ (i : Int) := by omega
      have hj0 : 0 ≤ (j : Int) := by omega
      by_cases hlt : j < l.length
      · have hcell := HSO.out.cellI (i := j) (by omega)
        have hcelli := HSO.out.cellI (i := i) (by omega)
        have hfro := HSO.out.froI i
        have HX : Hid (L[j] = l[j]) := Lib.hid (by have := HD.out j (Nat.le_refl _); rw [List.getElem?_eq_getElem (by omega), List.getElem?_eq_getElem hlt] at this; simpa using this)
        have HY := Lib.hid (take_snocI l j hlt)
        rw [HX.out] at hcell
        generalize l[j] = x at *
        have HA := Lib.hid (HG.out W0 HTN.out x)
        have hig : i < l.length := by omega
        cases hd : stB ii x with
        | true =>
          rw [hd] at HA
          have HT2 : Hid ((L.set i x).take (i + 1) = (l.take (j + 1)).filter fun n => stB ii n) := Lib.hid (by
            rw [HY.out, List.filter_append, ← HT.out, List.take_succ_eq_append_getElem (by rw [List.length_set]; omega), List.take_set_of_le (Nat.le_refl i)]
            simp [hd])
          have HD2 : Hid (∀ q, j + 1 ≤ q → (L.set i x)[q]? = l[q]?) := Lib.hid (fun q hq => by rw [List.getElem?_set_ne (by omega)]; exact HD.out q (by omega))
          clear hd
          have HSET : Hid (So encI 1 (W0.setCell ⟨g, i, none⟩ (.int .i64 x)) K 3 (.slice (some ⟨g, 0, none⟩) l.length cap) (L.set i x)) := Lib.hid (by
            have := HSO.out.set1 encI_len (i := i) (j := 0) (by decide) (u := .int .i64 x) (y := x) (List.getElem?_eq_getElem (by omega)) rfl
            rwa [Nat.mul_one, Nat.add_zero] at this)
          have HTS := Lib.hid (HTN.out.then (Tn.setCell W0 g i (.int .i64 x)))
          have hsz : (L.set i x).length = l.length := by rw [List.length_set]; exact hL
          have HSZ := Lib.hid hsz
          clear hsz
          go_wp2_with (go_at_call 123; refine HA.out.mono ?_; rintro e w1 ⟨rfl, rfl⟩)
          go_roundw
          case rel => exact ⟨i + 1, j + 1, L.set i x, by go_num, by go_num, by omega, by omega, HSZ.out, HSET.out, Lib.hid HT2.out, Lib.hid HD2.out, HTS.out⟩
          case measure => simp [intOf]; omega
        | false =>
          rw [hd] at HA
          have HT2 : Hid (L.take i = (l.take (j + 1)).filter fun n => stB ii n) := Lib.hid (by
            rw [HY.out, List.filter_append, ← HT.out]
            simp [hd])
          clear hd
          go_wp2_with (go_at_call 123; refine HA.out.mono ?_; rintro e w1 ⟨rfl, rfl⟩)
          go_roundw
          case rel => exact ⟨i, j + 1, L, rfl, by go_num, by omega, by omega, hL, HSO.out, Lib.hid HT2.out, Lib.hid fun q hq => HD.out q (by omega), HTN.out⟩
          case measure => simp [intOf]; omega
      · have hjl : j = l.length := by omega
        subst hjl
        have hsl := slice_fromK und_isl eq_i64_sizeOf (some ⟨g, 0, none⟩) l.length cap i (by omega) W0
        have hsl2 := fun W => slice_toK und_isl eq_i64_sizeOf (some ⟨g, 0, none⟩) l.length cap i (by omega) W
        have hic : ¬ cap = i := by omega
        rw [if_neg hic] at hsl
        simp only [Option.map_some, Addr.add_lit, Nat.mul_one, Nat.zero_add] at hsl
        have hz : ∀ ty, (Builtin.clear_ #[29] ty #[.slice (some ⟨g, i, none⟩) (l.length - i) (cap - i)]).run Try.prog W0 = .ok (.tuple #[]) (W0.setCells g i (List.replicate (l.length - i) (.int .i64 0))) := fun ty =>
          Lib.run_clear_slice W0 29 3 ty (.int .i64 0) Try.underlying29 (fun w => by kernel_rfl) rfl rfl g i (l.length - i) (cap - i) (by omega) (fun q hq => by rw [HSO.out.cellI (i := i + q) (by omega)]; rfl) (fun q _ => HSO.out.froI _)
        obtain ⟨L2, hs2, ht2⟩ := So.zeros (l.length - i) i HSO.out (by omega)
        have HE : Hid (So encI 1 (W0.setCells g i (List.replicate (l.length - i) (.int .i64 0))) K 3 (.slice (some ⟨g, 0, none⟩) i cap) (l.filter fun n => stB ii n)) := Lib.hid (by
          have := hs2.to (i := i) (by omega)
          rwa [ht2 i (Nat.le_refl _), HT.out, List.take_length] at this)
        have HTS := Lib.hid (HTN.out.then (Tn.setCells g (List.replicate (l.length - i) (.int .i64 0)) i W0))
        clear hs2 ht2
        go_wp2
        go_ret
        exact ⟨i, rfl, HE.out, HTS.out⟩

def OthP (w : World) (ii : Int) (l : List Int) (e : Ending) (w' : World) : Prop :=
  ∃ A c m, e = .returned (.slice A m c) ∧ So encI 1 w' w.heap.size 3 (.slice A m c) (l.filter fun n => stB ii n) ∧ Below w.heap.size w w'
set_option maxRecDepth 100000 in
set_option maxHeartbeats 1600000 in
theorem others_any {w : World} {Kb b : Nat} {MA LA : Option Addr} {mc lc : Nat} {x : Rs} {AV : Value} (H : Rn w Kb b MA mc LA lc AV x) (hl : x.ms.length ≤ 1048576) (h0 : 0 < x.ms.length) :
    Calls Try.prog 83 #[.pointer (some ⟨b, 0, none⟩)] w (OthP w x.id x.ms) := by
  have hbl := H.bx.lt
  obtain ⟨W0, hW0⟩ : ∃ W0, W0 = w.alloc (.cells #[.pointer (some ⟨b, 0, none⟩)] 25) := ⟨_, rfl⟩
  have hb0 : Below w.heap.size w W0 := by rw [hW0]; exact (Below.refl _ _).alloc (Nat.le_refl _) _
  have HR0 := Lib.hid (H.below hb0)
  have HPB : Hid (Bxo W0 w.heap.size #[.pointer (some ⟨b, 0, none⟩)] 25) := Lib.hid (by rw [hW0]; exact Bxo.new _ _ _)
  have HB0 := Lib.hid hb0
  have hz0 : w.heap.size < W0.heap.size := by rw [hW0]; simp
  have HC := Lib.hid (clone_ints W0.heap.size MA x.ms.length mc x.ms W0 rfl (HR0.out.ms.sr encI_len).1 (Nat.le_refl _) (by omega))
  have HWW := Lib.hid hW0
  have y3 : W0.cell? ⟨b, 3, none⟩ = some (.slice MA x.ms.length mc) := HR0.out.bx.cell rfl
  have yl := HR0.out.bx.lt
  have z0 : W0.cell? ⟨w.heap.size, 0, none⟩ = some (.pointer (some ⟨b, 0, none⟩)) := HPB.out.cell rfl
  have zl := HPB.out.lt
  clear H hb0 hW0
  go_enter Try.func83, Try.ntmps83
  go_upto_region 1 with fail
  rw [← HWW.out]
  go_wp2_with fail
  go_at_call 77
  refine HC.out.mono ?_
  rintro e w1 ⟨A1, c1, rfl, so1, b1⟩
  have hz1 : W0.heap.size ≤ w1.heap.size := b1.size
  obtain ⟨g, hg⟩ : ∃ g, A1 = some ⟨g, 0, none⟩ := by
    rcases so1.2 with ⟨e, h9⟩ | ⟨g, cap, cur, e, _⟩
    · omega
    · injection e with e1 _ _
      exact ⟨g, e1⟩
  subst hg
  have hgl := (so1.lt g rfl).1
  have HR1 := Lib.hid (HR0.out.below b1)
  have HP1 := Lib.hid (HPB.out.below b1)
  have HB1 := Lib.hid (HB0.out.trans (b1.mono (by omega)))
  have HD := Lib.hid (delout_any w.heap.size b x.id W0.heap.size g x.ms.length c1 x.ms w1 so1 (HP1.out.cell rfl) (HR1.out.bx.cell rfl) (by omega) (by omega))
  clear so1 b1 y3 yl z0 zl
  go_wp2_with fail
  refine HD.out.mono ?_
  rintro e w2 ⟨m, rfl, so2, t2⟩
  have HS2 := Lib.hid (so2.more (K' := w.heap.size) (by omega))
  have HB2 : Hid (Below w.heap.size w w2) := Lib.hid (HB1.out.trans (t2.below (by omega) (fun k _ e => by omega)))
  clear so2 t2
  go_wp2_with fail
  go_ret
  exact ⟨_, c1, m, rfl, HS2.out, HB2.out⟩
end Go.Proofs.Ytpnhdocimjkakaa
