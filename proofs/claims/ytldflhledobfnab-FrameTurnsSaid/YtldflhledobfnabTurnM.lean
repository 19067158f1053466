/- A frame of which one byte is another one is no such frame. -/
import Derived.Test.YtldflhledobfnabScanM
namespace Go.Proofs.Ytldflhledobfnab

theorem poly_top : polyN.testBit 31 = true := by decide
theorem low_top {x : Nat} (h : x < 4294967296) : (x / 2).testBit 31 = false := Nat.testBit_lt_two_pow (by omega)
theorem bitStep_inj {c d : Nat} (hc : c < 4294967296) (hd : d < 4294967296) (h : bitStep c = bitStep d) : c = d := by
  unfold bitStep at h
  by_cases e1 : c % 2 = 1 <;> by_cases e2 : d % 2 = 1
  · rw [if_pos e1, if_pos e2] at h
    have := congrArg (· ^^^ polyN) h
    simp only [Nat.xor_assoc, Nat.xor_self, Nat.xor_zero] at this
    omega
  · rw [if_pos e1, if_neg e2] at h
    have := congrArg (Nat.testBit · 31) h
    simp only [Nat.testBit_xor, low_top hc, low_top hd, poly_top] at this
    simp at this
  · rw [if_neg e1, if_pos e2] at h
    have := congrArg (Nat.testBit · 31) h
    simp only [Nat.testBit_xor, low_top hc, low_top hd, poly_top] at this
    simp at this
  · rw [if_neg e1, if_neg e2] at h
    omega
theorem bitsTo_inj {c d : Nat} (hc : c < 4294967296) (hd : d < 4294967296) : ∀ k, bitsTo c k = bitsTo d k → c = d
  | 0, h => h
  | k + 1, h => bitsTo_inj hc hd k (bitStep_inj (bitsTo_lt hc k) (bitsTo_lt hd k) h)
theorem xor_left_inj {a b x : Nat} (h : a ^^^ x = b ^^^ x) : a = b := by
  have := congrArg (· ^^^ x) h
  simpa [Nat.xor_assoc] using this
theorem xor_right_inj {a b x : Nat} (h : x ^^^ a = x ^^^ b) : a = b := xor_left_inj (x := x) (by rw [Nat.xor_comm a, Nat.xor_comm b]; exact h)
theorem byteStep_inj {c d : Nat} (hc : c < 4294967296) (hd : d < 4294967296) (b : UInt8) (h : byteStep c b = byteStep d b) : c = d :=
  xor_left_inj (bitsTo_inj (xor_byte_lt hc b) (xor_byte_lt hd b) 8 h)
theorem byteStep_byte {c : Nat} (hc : c < 4294967296) {b b' : UInt8} (h : byteStep c b = byteStep c b') : b = b' :=
  UInt8.toNat_inj.1 (xor_right_inj (bitsTo_inj (xor_byte_lt hc b) (xor_byte_lt hc b') 8 h))
theorem crcTo_inj : ∀ (l : List UInt8) {c d : Nat}, c < 4294967296 → d < 4294967296 → crcTo c l = crcTo d l → c = d
  | [], _, _, _, _, h => h
  | b :: l, _, _, hc, hd, h => byteStep_inj hc hd b (crcTo_inj l (byteStep_lt hc b) (byteStep_lt hd b) h)
theorem crcN_byte (s : Nat) (l r : List UInt8) {b b' : UInt8} (h : crcN s (l ++ b :: r) = crcN s (l ++ b' :: r)) : b = b' := by
  have hs : fullN - s < 4294967296 := by unfold fullN; omega
  have hl := crcTo_lt l hs
  have e : ∀ x : UInt8, crcTo (fullN - s) (l ++ x :: r) = crcTo (byteStep (crcTo (fullN - s) l) x) r := fun x => by rw [crcTo_append]; rfl
  unfold crcN at h
  rw [e, e] at h
  have h1 := crcTo_lt r (byteStep_lt hl b)
  have h2 := crcTo_lt r (byteStep_lt hl b')
  have : crcTo (byteStep (crcTo (fullN - s) l) b) r = crcTo (byteStep (crcTo (fullN - s) l) b') r := by unfold fullN at *; omega
  exact byteStep_byte hl (crcTo_inj r (byteStep_lt hl b) (byteStep_lt hl b') this)

theorem seal_form (k : UInt8) (p r : List UInt8) : sealB k p ++ r = 167 :: k :: UInt8.ofNat (p.length / 65536) :: UInt8.ofNat (p.length / 256) :: UInt8.ofNat p.length :: (le4 (sumB k p) ++ (p ++ r)) := by
  simp [sealB, hd4]
theorem ofNat_ne {x : Nat} {c : UInt8} (h : c ≠ UInt8.ofNat x) : c.toNat ≠ x % 256 := fun e => h (UInt8.toNat_inj.1 (by simp [e]))
theorem le4_eq (c : Nat) : le4 c = [UInt8.ofNat c, UInt8.ofNat (c / 256), UInt8.ofNat (c / 65536), UInt8.ofNat (c / 16777216)] := rfl

/-- One byte turned: an error, or another length. -/
theorem open_turned (k : UInt8) (p r : List UInt8) (i : Nat) (c : UInt8) (hp : p.length ≤ 1048576) (hi : i < 9 + p.length) (hc : (sealB k p)[i]? ≠ some c) :
    (openB ((sealB k p).set i c ++ r)).2.2.2 ≠ 0 ∨ (openB ((sealB k p).set i c ++ r)).2.2.1 ≠ 9 + p.length := by
  by_cases h0 : (openB ((sealB k p).set i c ++ r)).2.2.2 = 0
  · right
    intro hu
    obtain ⟨e0, _, _, es, eo⟩ := openB_inv h0
    rw [eo] at hu
    simp only at hu
    have el : lenB ((sealB k p).set i c ++ r) = p.length := by omega
    have hcr := sumB_lt k p
    have hf := seal_form k p []
    rw [List.append_nil, List.append_nil] at hf
    unfold sumO payB at es
    rw [el] at es
    rw [hf] at hc e0 el es
    have hcf : sumB k p = crcN 0 (k :: UInt8.ofNat (p.length / 65536) :: UInt8.ofNat (p.length / 256) :: UInt8.ofNat p.length :: p) := rfl
    rcases Nat.lt_or_ge i 9 with hlt | hge
    · rw [le4_eq] at hc e0 el es
      rcases (show i = 0 ∨ i = 1 ∨ i = 2 ∨ i = 3 ∨ i = 4 ∨ i = 5 ∨ i = 6 ∨ i = 7 ∨ i = 8 by omega) with rfl | rfl | rfl | rfl | rfl | rfl | rfl | rfl | rfl
      · simp [at0] at e0 hc; exact hc (UInt8.toNat_inj.1 (by simp [e0])).symm
      ·
        simp [sum4, at0] at es hc
        have := crcN_byte 0 [] (UInt8.ofNat (p.length / 65536) :: UInt8.ofNat (p.length / 256) :: UInt8.ofNat p.length :: p) (b := k) (b' := c) (by rw [List.nil_append, List.nil_append, ← hcf, ← es]; omega)
        exact hc this
      · simp [lenB, at0] at el hc; have := ofNat_ne (Ne.symm hc); omega
      · simp [lenB, at0] at el hc; have := ofNat_ne (Ne.symm hc); have := c.toNat_lt; omega
      · simp [lenB, at0] at el hc; have := ofNat_ne (Ne.symm hc); have := c.toNat_lt; omega
      · simp [sum4, at0] at es hc; rw [← hcf] at es; have := ofNat_ne (Ne.symm hc); have := c.toNat_lt; omega
      · simp [sum4, at0] at es hc; rw [← hcf] at es; have := ofNat_ne (Ne.symm hc); have := c.toNat_lt; omega
      · simp [sum4, at0] at es hc; rw [← hcf] at es; have := ofNat_ne (Ne.symm hc); have := c.toNat_lt; omega
      · simp [sum4, at0] at es hc; rw [← hcf] at es; have := ofNat_ne (Ne.symm hc); have := c.toNat_lt; omega
    · obtain ⟨j, rfl⟩ : ∃ j, i = j + 9 := ⟨i - 9, by omega⟩
      have hj : j < p.length := by omega
      rw [le4_eq] at hc e0 el es
      simp [sum4, at0] at es hc
      have h1 : sumB k p = crcN 0 (k :: UInt8.ofNat (p.length / 65536) :: UInt8.ofNat (p.length / 256) :: UInt8.ofNat p.length :: p.set j c) := by omega
      rw [hcf] at h1
      have h2 : p = p.take j ++ p[j] :: p.drop (j + 1) := by simp
      have h3 : p.set j c = p.take j ++ c :: p.drop (j + 1) := by rw [List.set_eq_take_append_cons_drop, if_pos hj]
      rw [h3] at h1
      have h4 := crcN_byte 0 (k :: UInt8.ofNat (p.length / 65536) :: UInt8.ofNat (p.length / 256) :: UInt8.ofNat p.length :: p.take j) (p.drop (j + 1)) (b := p[j]) (b' := c) (by
        simp only [List.cons_append]
        rw [← h2]
        exact h1)
      exact hc (by rw [List.getElem?_eq_getElem hj, h4])
  · exact .inl h0

/-- Where a place of the frames lies: in the h-th one. -/
def endsB (l : List (UInt8 × List UInt8)) : List Nat := (List.range l.length).map fun i => (catB (l.take (i + 1))).length
theorem endsB_length (l : List (UInt8 × List UInt8)) : (endsB l).length = l.length := by simp [endsB]
theorem endsB_get {l : List (UInt8 × List UInt8)} {i : Nat} (h : i < l.length) : (endsB l)[i]? = some (catB (l.take (i + 1))).length := by simp [endsB, h]
theorem endsB_snoc (l : List (UInt8 × List UInt8)) (x : UInt8 × List UInt8) : endsB (l ++ [x]) = endsB l ++ [(catB (l ++ [x])).length] := by
  unfold endsB
  rw [List.length_append, List.length_singleton, List.range_succ, List.map_append, List.map_singleton]
  congr 1
  · apply List.map_congr_left
    intro i hi
    rw [List.mem_range] at hi
    rw [List.take_append_of_le_length (by omega)]
  · rw [List.take_of_length_le (by simp)]
theorem catB_append (a b : List (UInt8 × List UInt8)) : catB (a ++ b) = catB a ++ catB b := by simp [catB]
theorem cat_split {l : List (UInt8 × List UInt8)} {h : Nat} (hh : h < l.length) : catB l = catB (l.take h) ++ (sealB l[h].1 l[h].2 ++ catB (l.drop (h + 1))) := by
  have e : l = l.take h ++ ([l[h]] ++ l.drop (h + 1)) := by simp
  conv => lhs; rw [e]
  rw [catB_append, catB_append]
  simp [catB]
theorem cat_take_succ {l : List (UInt8 × List UInt8)} {h : Nat} (hh : h < l.length) : (catB (l.take (h + 1))).length = (catB (l.take h)).length + (9 + l[h].2.length) := by
  rw [List.take_succ_eq_append_getElem hh, catB_snoc, List.length_append, sealB_length]
/-- What is scanned, and opened, of frames of which a byte in the h-th one is turned. -/
theorem turned_cat {l : List (UInt8 × List UInt8)} {h at' : Nat} {c : UInt8} (hs : ∀ x ∈ l, x.2.length ≤ 1048576) (hh : h < l.length) (h1 : (catB (l.take h)).length ≤ at') (h2 : at' < (catB (l.take (h + 1))).length) (hc : (catB l)[at']? ≠ some c) :
    ∃ rest, (scanB ((catB l).set at' c)).1 = l.take h ++ rest ∧
      ((openB (((catB l).set at' c).drop (catB (l.take h)).length)).2.2.2 ≠ 0 ∨ (openB (((catB l).set at' c).drop (catB (l.take h)).length)).2.2.1 ≠ (catB (l.take (h + 1))).length - (catB (l.take h)).length) := by
  have hsp := cat_split hh
  rw [cat_take_succ hh] at h2 ⊢
  obtain ⟨i, rfl⟩ : ∃ i, at' = (catB (l.take h)).length + i := ⟨at' - (catB (l.take h)).length, by omega⟩
  have hil : i < (sealB l[h].1 l[h].2).length := by rw [sealB_length]; omega
  have hset : (catB l).set ((catB (l.take h)).length + i) c = catB (l.take h) ++ ((sealB l[h].1 l[h].2).set i c ++ catB (l.drop (h + 1))) := by
    rw [hsp, List.set_append_right _ _ (by omega), Nat.add_sub_cancel_left, List.set_append_left _ _ hil]
  have hc' : (sealB l[h].1 l[h].2)[i]? ≠ some c := by
    rw [hsp, List.getElem?_append_right (by omega), Nat.add_sub_cancel_left, List.getElem?_append_left hil] at hc
    exact hc
  rw [hset]
  refine ⟨_, congrArg Prod.fst (scan_cat (l.take h) _ fun x hx => hs x (List.mem_of_mem_take hx)), ?_⟩
  rw [List.drop_left, Nat.add_sub_cancel_left]
  exact open_turned _ _ _ i c (hs _ (List.getElem_mem hh)) (by rw [sealB_length] at hil; exact hil) hc'

end Go.Proofs.Ytldflhledobfnab
