/- The document's disk: Find, Used, power. -/
import Derived.Test.YtpckbbjlihhpdaaRdM
import Derived.BigQuiet
import Derived.LoopTactic
namespace Go.Proofs.Ytpckbbjlihhpdaa
open Go.RowKit Go.BigFrame

section
variable {w : World} {m cap : Nat} {room fuse : Int} {down : Bool} {A : Option Addr} {qs : List Rq}
theorem getD_map {i : Nat} {q : Rq} (h : qs[i]? = some q) : (qs.map Rq.x)[i]? = some q.x := by rw [List.getElem?_map, h]; rfl
set_option maxRecDepth 100000 in
set_option maxHeartbeats 1600000 in
theorem rfind_any (h : RK w m room fuse down A cap qs) (hlen : qs.length ≤ 1025) (n : Int) :
    Calls Try.prog 44 #[rP m, .int .i64 n] w fun e w' => e = .returned (.int .i64 (findI (qs.map Rq.x) n)) ∧ w' = w := by
  have H := Lib.hid h
  have c1 := h.c1
  have hle := (h.so.sr encQ_len).1.le
  have hmx := (h.so.sr encQ_len).1.max
  unfold maxLen at hmx
  clear h
  go_enter Try.func44, Try.ntmps44
  go_wp2
  go_loopw [5] (fun i wr => ∃ (k : Nat), k ≤ qs.length ∧ i = .int .i64 k ∧ Hid (∀ j (hj : j < qs.length), j < k → qs[j].x.n ≠ n) ∧ wr = w) (fun i _ => qs.length - (intOf i).toNat)
  case atStart => exact ⟨0, Nat.zero_le _, rfl, Lib.hid (fun j _ h => absurd h (by omega)), rfl⟩
  case round =>
    obtain ⟨k, hk, rfl, HJ, rfl⟩ := hrel
    by_cases hlt : k < qs.length
    · obtain ⟨g, rfl⟩ := H.out.addr (by omega)
      have hs : wr.cell? ⟨g, k * 4, none⟩ = some (.int .i64 qs[k].x.n) := (H.out.slot (List.getElem?_eq_getElem hlt)).1 0 _ rfl
      have HT : Hid (qs[k].x.n = n → findI (qs.map Rq.x) n = (k : Int)) := Lib.hid fun e => by
        have h1 : fiA (qs.map Rq.x) n = k := fi_at (by simpa using hlt) (fun j hj => by simpa using HJ.out j (by omega) hj) (by simpa using e)
        unfold findI
        rw [h1, if_pos (by simpa using hlt)]
      have HF : Hid (qs[k].x.n ≠ n → ∀ j (hj : j < qs.length), j < k + 1 → qs[j].x.n ≠ n) := Lib.hid fun e j hj hjk => by
        by_cases ej : j = k
        · subst ej; exact e
        · exact HJ.out j hj (by omega)
      generalize qs[k].x.n = x at *
      have i1 : (k : Int) < qs.length := by omega
      by_cases hx : x = n
      · have HI := Lib.hid (HT.out hx)
        have b1 : (x == n) = true := beq_iff_eq.2 hx
        clear hx HT HF HJ
        go_wp2_with fail
        go_ret
        exact ⟨ret_int HI.out.symm, rfl⟩
      · have HI := Lib.hid (HF.out hx)
        have b1 : (x == n) = false := beq_eq_false_iff_ne.2 hx
        clear hx HT HF HJ
        go_wp2_with fail
        go_roundw
        case rel => exact ⟨k + 1, by omega, by go_num, Lib.hid HI.out, trivial⟩
        case measure => simp [intOf]; omega
    · obtain rfl : k = qs.length := by omega
      have HI : Hid (findI (qs.map Rq.x) n = -1) := Lib.hid (by
        have h1 : fiA (qs.map Rq.x) n = (qs.map Rq.x).length := fi_all fun j hj => by
          have := HJ.out j (by simpa using hj) (by simpa using hj)
          simpa using this
        unfold findI
        rw [h1, if_neg (by omega)])
      go_wp2_with fail
      go_ret
      exact ⟨ret_int HI.out.symm, rfl⟩
theorem sum_next {k : Nat} (h : k < qs.length) : sumA ((qs.take (k + 1)).map Rq.x) = sumA ((qs.take k).map Rq.x) + qs[k].x.b.length := by
  rw [List.take_succ_eq_append_getElem h, List.map_append, sumA_append]
  rfl
theorem sum_take (k : Nat) : sumA ((qs.take k).map Rq.x) ≤ sumA (qs.map Rq.x) := by
  have h := congrArg (fun l : List Rq => sumA (l.map Rq.x)) (List.take_append_drop k qs)
  simp only [List.map_append, sumA_append] at h
  omega
set_option maxRecDepth 100000 in
set_option maxHeartbeats 1600000 in
theorem rused_any (h : RK w m room fuse down A cap qs) (hlen : qs.length ≤ 1025) (hsum : sumA (qs.map Rq.x) ≤ 67108864) :
    Calls Try.prog 33 #[rP m] w fun e w' => e = .returned (.int .i64 (sumA (qs.map Rq.x) : Nat)) ∧ Below w.heap.size w w' := by
  have H := Lib.hid h
  have c1 := h.c1
  have hle := (h.so.sr encQ_len).1.le
  have hmx := (h.so.sr encQ_len).1.max
  unfold maxLen at hmx
  clear h
  go_enter Try.func33, Try.ntmps33
  go_wp2
  go_loopw [3, 4] (fun s i wr => ∃ (k q : Nat), k ≤ qs.length ∧ i = .int .i64 k ∧ s = .int .i64 q ∧ Hid (q = sumA ((qs.take k).map Rq.x)) ∧ ∃ nd, wr = w.drewN nd) (fun _ i _ => qs.length - (intOf i).toNat)
  case atStart => exact ⟨0, 0, Nat.zero_le _, rfl, rfl, Lib.hid rfl, 0, rfl⟩
  case round =>
    obtain ⟨k, q, hk, rfl, rfl, HQ, nd, hw⟩ := hrel
    rename World => wr
    have hB : Below w.heap.size w wr := by rw [hw]; exact ⟨rfl, rfl, rfl, Nat.le_refl _, fun _ _ => rfl⟩
    have H2 := Lib.hid (H.out.below hB)
    have HW := Lib.hid hw
    have HB := Lib.hid hB
    have d1 := H2.out.c1
    have hq := HQ.out
    have hst := sum_take (qs := qs) k
    clear hw hB
    by_cases hlt : k < qs.length
    · obtain ⟨g, rfl⟩ := H.out.addr (by omega)
      have s1 := (H2.out.slot (List.getElem?_eq_getElem hlt)).1 1 _ rfl
      have s2 := (H2.out.slot (List.getElem?_eq_getElem hlt)).1 2 _ rfl
      have hgl := (H.out.gq _ (List.getElem_mem hlt)).le
      have hn := sum_next hlt
      have hst2 := sum_take (qs := qs) (k + 1)
      generalize qs[k] = y at *
      have HN : Hid (q + y.x.b.length = sumA ((qs.take (k + 1)).map Rq.x)) := Lib.hid (by rw [hn, hq])
      have hb : q + y.x.b.length ≤ 67108864 := by omega
      obtain ⟨l1, hl1⟩ : ∃ l, l = y.x.l := ⟨_, rfl⟩
      obtain ⟨l2, hl2⟩ : ∃ l, l = y.x.b.length - y.x.l := ⟨_, rfl⟩
      rw [← hl1] at s1
      rw [← hl2] at s2
      have hs12 : q + l1 + l2 = q + y.x.b.length := by omega
      have HS := Lib.hid hs12
      have hb1 : q + l1 ≤ 67108864 := by omega
      have hb2 : q + l1 + l2 ≤ 67108864 := by omega
      have i1 : (k : Int) < qs.length := by omega
      clear hl1 hl2 hgl hn hst hst2 hq hs12 hb
      go_wp2_with fail
      go_quiet (fail)
      go_wp2_with fail
      go_roundw
      case rel => exact ⟨k + 1, q + l1 + l2, by omega, by go_num, by go_num, Lib.hid (by rw [HS.out, HN.out]), by
        obtain hw := HW.out
        rw [hw]
        exact ⟨_, World.drewN_drewN _ _ _⟩⟩
      case measure => simp [intOf]; omega
    · obtain rfl : k = qs.length := by omega
      have HF : Hid (q = sumA (qs.map Rq.x)) := Lib.hid (by rw [hq, List.take_length])
      clear hq hst
      go_wp2_with fail
      go_ret
      exact ⟨ret_int (by rw [HF.out]), HB.out⟩
set_option maxHeartbeats 1600000 in
theorem rpow_yes (h : RK w m room fuse down A cap qs) (hf : fuse ≠ 0) (hf1 : -1 ≤ fuse) (hf2 : fuse ≤ 9223372036854775807) :
    Calls Try.prog 45 #[rP m] w fun e w' => e = .returned (.bool true) ∧ RK w' m room (fz fuse) down A cap qs ∧ Tn (· = m) w w' := by
  have H := Lib.hid h
  have c2 := h.c2
  have fr := h.fr 2
  have b0 : (fuse == 0) = false := beq_eq_false_iff_ne.2 hf
  clear h
  by_cases hp : 0 < fuse
  · have e : fz fuse = fuse - 1 := if_pos hp
    rw [e]
    have ew : wrap64 (fuse - 1) = fuse - 1 := by unfold wrap64; omega
    clear e
    go_enter Try.func45, Try.ntmps45
    go_wp2
    go_ret
    exact ⟨rfl, H.out.setF _, Tn.setCell _ _ _ _⟩
  · have e : fz fuse = fuse := if_neg hp
    rw [e]
    clear e
    go_enter Try.func45, Try.ntmps45
    go_wp2
    go_ret
    exact ⟨rfl, H.out, Tn.refl _ _⟩
set_option maxHeartbeats 1600000 in
theorem rpow_no (h : RK w m room 0 down A cap qs) :
    Calls Try.prog 45 #[rP m] w fun e w' => e = .returned (.bool false) ∧ RK w' m room 0 true A cap qs ∧ Tn (· = m) w w' := by
  have H := Lib.hid h
  have c2 := h.c2
  have c3 := h.c3
  have fr := h.fr 3
  clear h
  go_enter Try.func45, Try.ntmps45
  go_wp2
  go_ret
  exact ⟨rfl, H.out.setG _, Tn.setCell _ _ _ _⟩
end
end Go.Proofs.Ytpckbbjlihhpdaa
