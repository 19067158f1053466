/- A disk's Crash. -/
import Derived.Test.YtpckbbjlihhpdaaDkA
import Derived.LoopTactic
namespace Go.Proofs.Ytpckbbjlihhpdaa
open Go.RowKit Go.Maps Go.BigFrame

theorem Sr.tn {α : Type} {enc : α → List Value} {k K cap : Nat} {A : Option Addr} {l : List α} {P : Nat → Prop} {w w' : World} (hb : Sr enc k w K A cap l) (h : Tn P w w') (hn : 0 < l.length → ∀ ad : Addr, A = some ad → ¬ P ad.block) : Sr enc k w' K A cap l :=
  ⟨hb.le, hb.max, hb.nil, fun hl => by
    obtain ⟨ad, e, hk, hc⟩ := hb.at_ hl
    refine ⟨ad, e, hk, fun i x hi j u hu => ?_⟩
    have := hc i x hi j u hu
    have hbl : (ad.add (i * k + j)).block = ad.block := el_block_of_add ad _
    generalize ad.add (i * k + j) = q at *
    exact h.cell this (by rw [hbl]; exact hn hl ad e)⟩
theorem Sr.int {K cap i : Nat} {A : Option Addr} {l : List Int} {w : World} (h : Sr encI 1 w K A cap l) (hi : i < l.length) : ∃ ad : Addr, A = some ad ∧ ad.block < K ∧ w.cell? (ad.add i) = some (.int .i64 l[i]) := by
  obtain ⟨ad, e, hb, hc⟩ := h.get hi
  have := hc 0 (.int .i64 l[i]) rfl
  rw [Nat.mul_one, Nat.add_zero] at this
  exact ⟨ad, e, hb, this⟩
theorem crash_step (T T' R : List Sg) (s : Sg) (ks : List Int) (i : Nat) (more : Int) (hmore : more = ks.getD i 0) (hT' : T'.map ab = tornA (ab s) more) {L : List As} (h : T.map ab ++ crashA ((s :: R).map ab) (ks.drop i) = L) :
    (T ++ T').map ab ++ crashA (R.map ab) (ks.drop (i + 1)) = L := by
  subst hmore
  have e0 : crashA (ab s :: R.map ab) (ks.drop i) = tornA (ab s) ((ks.drop i).headD 0) ++ crashA (R.map ab) (ks.drop i).tail := rfl
  rw [← h, List.map_append, hT', List.map_cons, e0]
  have e1 : (ks.drop i).headD 0 = ks.getD i 0 := by
    rw [List.headD_eq_head?_getD, List.head?_drop]; rfl
  have e2 : (ks.drop i).tail = ks.drop (i + 1) := by rw [List.tail_drop]
  rw [e1, e2, List.append_assoc]
def Crashed (w : World) (K d mb : Nat) (room : Int) (M : List Sg) (ks : List Int) (e : Ending) (w' : World) : Prop :=
  e = .returned (.int .i64 0) ∧ ∃ M', M'.map ab = crashA (M.map ab) ks ∧ Dk w' K d mb room (sumA (M'.map ab) : Nat) (-1) false M' ∧ Tn (blD d mb M) w w' ∧ ∀ k, blD d mb M' k → blD d mb M k ∨ w.heap.size ≤ k
/-- Behind i rounds. -/
structure Cr (w1 wr : World) (K d mb : Nat) (room fuse : Int) (down : Bool) (M : List Sg) (ks : List Int) (i : Nat) (T : List Sg) : Prop where
  le : i ≤ M.length
  dk : Dk wr K d mb room (sumA ((T ++ M.drop i).map ab) : Nat) fuse down (T ++ M.drop i)
  eq : T.map ab ++ crashA ((M.drop i).map ab) (ks.drop i) = crashA (M.map ab) ks
  su : sumA ((T ++ M.drop i).map ab) ≤ sumA (M.map ab)
  tn : Tn (blD d mb M) w1 wr
  bl : ∀ k, blD d mb (T ++ M.drop i) k → blD d mb M k ∨ w1.heap.size ≤ k
section
variable {K d mb : Nat} {room fuse : Int} {down : Bool} {M T : List Sg} {w w1 wr w' : World} {ks : List Int} {i : Nat}
theorem Cr.start (h : Dk w1 K d mb room (sumA (M.map ab) : Nat) fuse down M) : Cr w1 w1 K d mb room fuse down M ks 0 [] :=
  ⟨Nat.zero_le _, h, rfl, Nat.le_refl _, Tn.refl _ _, fun _ h => .inl h⟩
theorem Cr.tear (h : Cr w1 wr K d mb room fuse down M ks i T) (hi : i < M.length) (hu : sumA (M.map ab) ≤ 67108864) (more : Int) (hmore : more = ks.getD i 0) :
    Calls Try.prog 54 #[dP d, .int .i64 M[i].n, .int .i64 more] wr fun e w' => e = .returned (.tuple #[]) ∧ ∃ T', Cr w1 w' K d mb room fuse down M ks (i + 1) T' := by
  have hd : M.drop i = M[i] :: M.drop (i + 1) := List.drop_eq_getElem_cons hi
  obtain ⟨h1, h2, h3, h4, h5, h6⟩ := h
  rw [hd] at h2 h3 h4 h6
  have hs := sum_split T (M.drop (i + 1)) M[i]
  refine (tear_at h2 more (by omega) (by omega) (by omega)).mono ?_
  rintro e w' ⟨rfl, T', e', D, t, B⟩
  have hk := kq_le (ab M[i]) more
  have hk' : kq (ab M[i]) more ≤ M[i].b.length := hk
  have hs2 : sumA ((T ++ T' ++ M.drop (i + 1)).map ab) = sumA ((T ++ M.drop (i + 1)).map ab) + kq (ab M[i]) more := by
    simp only [List.map_append, sumA_append, e', sum_torn]; omega
  refine ⟨rfl, T ++ T', hi, ?_, crash_step T T' _ M[i] ks i more hmore e' h3, by omega, h5.thenQ t fun k hk e => ?_, fun k hk => ?_⟩
  · have : (((sumA ((T ++ M[i] :: M.drop (i + 1)).map ab) : Nat) : Int) - ((M[i].b.length : Int) - (kq (ab M[i]) more : Nat))) = ((sumA ((T ++ T' ++ M.drop (i + 1)).map ab) : Nat) : Int) := by omega
    rw [this] at D
    exact D
  · rcases h6 k e with e | e
    · exact e
    · omega
  · rcases B k hk with e | e
    · exact h6 k e
    · exact .inr (Nat.le_trans h5.size e)
theorem Cr.end_ (h : Cr w1 wr K d mb room fuse down M ks M.length T) : T.map ab = crashA (M.map ab) ks ∧ Dk wr K d mb room (sumA (T.map ab) : Nat) fuse down T ∧ Tn (blD d mb M) w1 wr ∧ ∀ k, blD d mb T k → blD d mb M k ∨ w1.heap.size ≤ k := by
  obtain ⟨h1, h2, h3, h4, h5, h6⟩ := h
  rw [List.drop_length, List.append_nil] at h2 h6
  rw [List.drop_length] at h3
  exact ⟨by simpa [crashA] using h3, h2, h5, h6⟩
end
set_option maxRecDepth 100000 in
set_option maxHeartbeats 3200000 in
theorem crash_any {K d mb : Nat} {room fuse : Int} {down : Bool} {M : List Sg} {w : World} {A : Option Addr} {c m : Nat} {ks : List Int} (h : Dk w K d mb room (sumA (M.map ab) : Nat) fuse down M) (hu : sumA (M.map ab) ≤ 67108864) (hM : M.length ≤ 1024) (hk : Sr encI 1 w w.heap.size A c ks) (hm : ks.length = m)
    (hap : 0 < ks.length → ∀ ad : Addr, A = some ad → ¬ blD d mb M ad.block) :
    Calls Try.prog 24 #[dP d, .slice A m c] w (Crashed w K d mb room M ks) := by
  subst hm
  have HN := Lib.hid (numbers_any K d mb room _ fuse down M w h hM)
  have HD := Lib.hid h
  have HK := Lib.hid hk
  have HAP := Lib.hid hap
  have HU := Lib.hid hu
  have hkl := hk.le
  have hkm := hk.max
  unfold maxLen at hkm
  clear h hk hap hu
  go_enter Try.func24, Try.ntmps24
  go_wp2_with (go_at_call 53; refine HN.out.mono ?_; rintro e w1 ⟨v, rfl, so, b1⟩; obtain ⟨A1, c1, hv⟩ := so.form; rw [List.length_map] at hv; subst hv)
  have HS := Lib.hid (so.sr encI_len).1
  have hblk : ∀ ad : Addr, A1 = some ad → w.heap.size ≤ ad.block := fun ad e => by
    subst e
    obtain ⟨g, hg⟩ : ∃ g, (Value.slice (some ad) M.length c1).ownBlock = some g := ⟨_, rfl⟩
    exact (so.lt _ rfl).1
  have HB := Lib.hid hblk
  have HB1 := Lib.hid b1
  have HD1 := Lib.hid (HD.out.below b1)
  have HK1 := Lib.hid (HK.out.below b1)
  clear so hblk b1 HK
  go_loopw [13] (fun iv wr => ∃ (i : Nat) (T : List Sg), iv = .int .i64 (i : Int) ∧ Cr w1 wr K d mb room fuse down M ks i T) (fun iv _ => M.length - (intOf iv).toNat)
  case atStart => exact ⟨0, [], rfl, Cr.start HD1.out⟩
  case round =>
    obtain ⟨i, T, rfl, C⟩ := hrel
    rename World => W0
    have hle := C.le
    by_cases hlt : i < M.length
    · obtain ⟨ad, rfl, hb, hc0⟩ := (HS.out.tn C.tn fun _ ad e hbl => by
        have := HB.out ad e
        have := (HD.out.top hbl).2
        omega).int (i := i) (by rw [List.length_map]; exact hlt)
      rw [List.getElem_map] at hc0
      have hi0 : 0 ≤ (i : Int) := by omega
      by_cases hik : i < ks.length
      · have hmore : ks[i] = ks.getD i 0 := by simp [hik]
        obtain ⟨ak, rfl, hbk, hck⟩ := (HK1.out.tn C.tn HAP.out).int (i := i) hik
        have HT := Lib.hid (C.tear hlt HU.out ks[i] hmore)
        clear hmore C
        go_wp2_with (go_at_call 54; refine HT.out.mono ?_; rintro e W2 ⟨rfl, T2, C2⟩; have HC2 := Lib.hid C2; clear C2)
        go_roundw
        case rel => exact ⟨i + 1, T2, by go_num, HC2.out⟩
        case measure => simp [intOf]; omega
      · have hmore : (0 : Int) = ks.getD i 0 := by rw [List.getD_eq_getElem?_getD, List.getElem?_eq_none (by omega)]; rfl
        have HT := Lib.hid (C.tear hlt HU.out 0 hmore)
        clear hmore C
        go_wp2_with (go_at_call 54; refine HT.out.mono ?_; rintro e W2 ⟨rfl, T2, C2⟩; have HC2 := Lib.hid C2; clear C2)
        go_roundw
        case rel => exact ⟨i + 1, T2, by go_num, HC2.out⟩
        case measure => simp [intOf]; omega
    · obtain rfl : M.length = i := by omega
      obtain ⟨e1, D2, T2, B2⟩ := C.end_
      have c3 := D2.c3
      have c4 := D2.c4
      have f3 := D2.fr 3
      have f4 := D2.fr 4
      have HD2 := Lib.hid D2
      have HE := Lib.hid e1
      have HT2 := Lib.hid T2
      have HB2 := Lib.hid B2
      clear C D2 e1 T2 B2
      go_wp2
      go_ret
      exact ⟨rfl, T, HE.out, (HD2.out.set3 (-1)).set4 false, (((Tn.ofNew (P := blD d mb M) HB1.out).thenQ HT2.out (fun _ _ e => e)).thenQ (Tn.setCell _ d 3 _) (fun _ _ e => .inl e)).thenQ (Tn.setCell _ d 4 _) (fun _ _ e => .inl e), fun k hk => (HB2.out k hk).imp id fun e => Nat.le_trans HB1.out.size e⟩
theorem crash_DD {B : Nat → Prop} {w : World} {d : Nat} {a : Ad} {A : Option Addr} {m c K' : Nat} {ks : List Int} (h : DD w B d a) (hk : Sr encI 1 w K' A c ks) (hK' : K' ≤ w.heap.size) (hm : ks.length = m) (hp : 0 < ks.length → ∀ ad : Addr, A = some ad → ¬ B ad.block) :
    Calls Try.prog 24 #[dP d, .slice A m c] w (Dn w B d 0 (crashD a ks)) := by
  obtain ⟨K, mb, M, D, e, hB⟩ := h.ex
  have h1 := h.le
  have h2 := h.rm
  have h3 := h.ln
  rw [← e] at D h1 h3
  refine (crash_any D (by omega) (by simpa using h3) (hk.more hK') hm fun hl ad ea eb => hp hl ad ea (hB _ eb)).mono ?_
  rintro e' w' ⟨rfl, M', eM, D', t, hB'⟩
  have hc1 := len_crash (M.map ab) ks
  have hc2 := sum_crash (M.map ab) ks
  refine DD.turned (K := K) (a' := crashD a ks) hB ?_ (by rw [eM, e]; rfl) t hB' ?_ h2 ?_ (by simp [crashD]) (by simp [crashD]) 0
  · rw [eM, e] at D'
    exact D'
  · show ((sumA (crashA a.L ks) : Nat) : Int) ≤ a.room
    rw [← e]; omega
  · show (crashA a.L ks).length ≤ 1024
    rw [← e]; omega
end Go.Proofs.Ytpckbbjlihhpdaa
