/- The document's Put. -/
import Derived.Test.YtbeclajbpfglgaaChB
import Derived.Test.YtbeclajbpfglgaaChN
namespace Go.Proofs.Ytbeclajbpfglgaa
open Go.RowKit Go.BigFrame

abbrev ltb (v u : Ve) : Bool := belowB u.w u.t u.m v.w v.t v.m
abbrev gtb (v u : Ve) : Bool := belowB v.w v.t v.m u.w u.t u.m
theorem filter_lt {l : List Ve} {v : Ve} (hs : Chn l) (hn : l.any (sameAt · v) = false) : l.filter (ltb v) = l.take (posV l v.w v.t v.m) ∧ l.filter (gtb v) = l.drop (posV l v.w v.t v.m) := by
  obtain ⟨k1, k2⟩ := chn_split (a := v.w) (b := v.t) (c := v.m) hs
  rw [List.any_eq_false] at hn
  have e1 : ∀ x ∈ l.take (posV l v.w v.t v.m), ltb v x = true ∧ gtb v x = false := fun x hx => by
    have h1 := le_lt (k1 x hx) (by simpa using hn x (List.mem_of_mem_take hx))
    refine ⟨(below_lt x v).2 h1, ?_⟩
    cases h : gtb v x with
    | false => rfl
    | true => exact absurd ((below_lt v x).1 h) (fun h2 => ltV_asymm h1 h2)
  have e2 : ∀ x ∈ l.drop (posV l v.w v.t v.m), ltb v x = false ∧ gtb v x = true := fun x hx => by
    have h1 := gt_lt (k2 x hx)
    refine ⟨?_, (below_lt v x).2 h1⟩
    cases h : ltb v x with
    | false => rfl
    | true => exact absurd ((below_lt x v).1 h) (fun h2 => ltV_asymm h1 h2)
  have f1 : ∀ p : Ve → Bool, l.filter p = (l.take (posV l v.w v.t v.m)).filter p ++ (l.drop (posV l v.w v.t v.m)).filter p := fun p => by rw [← List.filter_append, List.take_append_drop]
  rw [f1, f1, List.filter_eq_self.2 (fun x hx => (e1 x hx).1), List.filter_eq_nil_iff.2 (fun x hx => by rw [(e2 x hx).1]; simp), List.filter_eq_nil_iff.2 (fun x hx => by rw [(e1 x hx).2]; simp), List.filter_eq_self.2 (fun x hx => (e2 x hx).2)]
  simp
theorem filt_succ {l : List Ve} {p : Ve → Bool} {i : Nat} (h : i < l.length) : (l.take (i + 1)).filter p = (l.take i).filter p ++ if p l[i] = true then [l[i]] else [] := by
  rw [List.take_succ_eq_append_getElem h, List.filter_append]
  congr 1
  by_cases hp : p l[i] = true <;> simp [hp]
theorem filt_len {l : List Ve} {p : Ve → Bool} {i : Nat} : ((l.take i).filter p).length ≤ l.length := Nat.le_trans (List.length_filter_le _ _) (by simp; omega)
section
variable {w : World} {A : Option Addr} {cap K : Nat} {l : List Ve} {v : Ve}
set_option maxRecDepth 100000 in
set_option maxHeartbeats 6400000 in
theorem rput_bad (h : Sr encV 6 w K A cap l) (hx : v.x.size ≤ maxLen) (hr : rightV v = false) : Calls Try.prog 27 #[.slice A l.length cap, agV v] w (PutP w (1, [])) := by
  have hcl := h.le
  have hcm := h.max
  unfold maxLen at hcm
  have HSr := Lib.hid h
  have HR := Lib.hid (fun w => vrright_any v w hx)
  rw [hr] at HR
  clear h hx
  go_enter Try.func27, Try.ntmps27
  have HB0 := Lib.hid ((Below.refl w.heap.size w).alloc (Nat.le_refl _) (.cells #[.int .i64 v.w, .int .u32 v.t, .int .u32 v.m, .int .i64 v.k, .int .i64 v.n, .string v.x] 26))
  go_wp2_with fail
  refine (HR.out _).mono ?_
  rintro e w1 ⟨rfl, b1⟩
  have y0 : w1.cell? ⟨w.heap.size, 0, none⟩ = some (.int .i64 v.w) := kept b1 (by simp)
  have y1 : w1.cell? ⟨w.heap.size, 1, none⟩ = some (.int .u32 v.t) := kept b1 (by simp)
  have y2 : w1.cell? ⟨w.heap.size, 2, none⟩ = some (.int .u32 v.m) := kept b1 (by simp)
  have y3 : w1.cell? ⟨w.heap.size, 3, none⟩ = some (.int .i64 v.k) := kept b1 (by simp)
  have y4 : w1.cell? ⟨w.heap.size, 4, none⟩ = some (.int .i64 v.n) := kept b1 (by simp)
  have y5 : w1.cell? ⟨w.heap.size, 5, none⟩ = some (.string v.x) := kept b1 (by simp)
  have HB1 := Lib.hid (HB0.out.trans (b1.mono HB0.out.size))
  have hz1 : w.heap.size + 1 ≤ w1.heap.size := Nat.le_trans (by simp) b1.size
  clear b1 HB0
  go_wp2
  exact bodyPost_ret (v := .tuple #[.slice none 0 0, .int .i64 1]) (by simp [results, Try.results27, go_sem]) rfl ⟨none, 0, rfl, Sr.none_ _ _, HB1.out, fun _ h => by cases h⟩
/-- Behind i rounds of a loop: what was taken over, in memory of its own. -/
structure Lp (w w1 wr : World) (pre : List Ve) (l : List Ve) (p : Ve → Bool) (i : Nat) (A' : Option Addr) (c' m : Nat) : Prop where
  le : i ≤ l.length
  so : So encV 6 wr (w.heap.size + 1) 26 (.slice A' m c') (pre ++ (l.take i).filter p)
  len : m = (pre ++ (l.take i).filter p).length
  bel : Below (w.heap.size + 1) w1 wr
theorem Lp.below {w w1 wr w' : World} {pre l : List Ve} {p : Ve → Bool} {i c' m : Nat} {A' : Option Addr} (h : Lp w w1 wr pre l p i A' c' m) (hz1 : w.heap.size + 1 ≤ w1.heap.size) (hb : Below wr.heap.size wr w') : Lp w w1 w' pre l p i A' c' m :=
  ⟨h.le, h.so.below hb, h.len, h.bel.trans (hb.mono (Nat.le_trans hz1 h.bel.size))⟩
theorem Lp.skip {w w1 wr : World} {pre l : List Ve} {p : Ve → Bool} {i c' m : Nat} {A' : Option Addr} (h : Lp w w1 wr pre l p i A' c' m) (hlt : i < l.length) (hp : p l[i] = false) : Lp w w1 wr pre l p (i + 1) A' c' m := by
  have e := filt_succ (p := p) hlt
  rw [if_neg (by simp [hp]), List.append_nil] at e
  exact ⟨hlt, by rw [e]; exact h.so, by rw [e]; exact h.len, h.bel⟩
theorem Lp.push {w w1 wr w2 : World} {pre l : List Ve} {p : Ve → Bool} {i c' m c2 : Nat} {A' A2 : Option Addr} {x : Ve} (h : Lp w w1 wr pre l p i A' c' m) (hlt : i < l.length) (ht : (l.take (i + 1)).filter p = (l.take i).filter p ++ if p x = true then [x] else []) (hp : p x = true)
    (so : So encV 6 w2 (w.heap.size + 1) 26 (.slice A2 (m + 1) c2) ((pre ++ (l.take i).filter p) ++ [x])) (hb : Below (w.heap.size + 1) w1 w2) : Lp w w1 w2 pre l p (i + 1) A2 c2 (m + 1) := by
  rw [if_pos hp] at ht
  have e : pre ++ (l.take (i + 1)).filter p = (pre ++ (l.take i).filter p) ++ [x] := by rw [ht, List.append_assoc]
  exact ⟨hlt, by rw [e]; exact so, by rw [e, List.length_append, ← h.len]; rfl, hb⟩
set_option maxRecDepth 100000 in
set_option maxHeartbeats 6400000 in
theorem rput_t (h : Sr encV 6 w K A cap l) (hK : K ≤ w.heap.size) (hmx : l.length ≤ 900000) (hx : v.x.size ≤ maxLen) (hr : rightV v = true) (ha : ∀ x ∈ l, sameAt x v = false) : Calls Try.prog 27 #[.slice A l.length cap, agV v] w (PutP w (0, l.filter (ltb v) ++ v :: l.filter (gtb v))) := by
  have hcl := h.le
  have hcm := h.max
  unfold maxLen at hcm
  have HSr := Lib.hid h
  have HR := Lib.hid (fun w => vrright_any v w hx)
  rw [hr] at HR
  clear h hx
  go_enter Try.func27, Try.ntmps27
  have HB0 := Lib.hid ((Below.refl w.heap.size w).alloc (Nat.le_refl _) (.cells #[.int .i64 v.w, .int .u32 v.t, .int .u32 v.m, .int .i64 v.k, .int .i64 v.n, .string v.x] 26))
  go_wp2_with fail
  refine (HR.out _).mono ?_
  rintro e w1 ⟨rfl, b1⟩
  have y0 : w1.cell? ⟨w.heap.size, 0, none⟩ = some (.int .i64 v.w) := kept b1 (by simp)
  have y1 : w1.cell? ⟨w.heap.size, 1, none⟩ = some (.int .u32 v.t) := kept b1 (by simp)
  have y2 : w1.cell? ⟨w.heap.size, 2, none⟩ = some (.int .u32 v.m) := kept b1 (by simp)
  have y3 : w1.cell? ⟨w.heap.size, 3, none⟩ = some (.int .i64 v.k) := kept b1 (by simp)
  have y4 : w1.cell? ⟨w.heap.size, 4, none⟩ = some (.int .i64 v.n) := kept b1 (by simp)
  have y5 : w1.cell? ⟨w.heap.size, 5, none⟩ = some (.string v.x) := kept b1 (by simp)
  have HB1 := Lib.hid (HB0.out.trans (b1.mono HB0.out.size))
  have hz1 : w.heap.size + 1 ≤ w1.heap.size := Nat.le_trans (by simp) b1.size
  clear b1 HB0
  have HA := Lib.hid ha
  clear ha
  go_wp2_with fail
  go_loopw [6, 7] (fun sv iv wr => ∃ (i : Nat) (A' : Option Addr) (c' m : Nat), iv = .int .i64 (i : Int) ∧ sv = .slice A' m c' ∧ Lp w w1 wr [] l (ltb v) i A' c' m) (fun _ iv _ => l.length - (intOf iv).toNat)
  case atStart => exact ⟨0, none, 0, 0, rfl, rfl, ⟨Nat.zero_le _, So.empty _ _ _ _ _, rfl, Below.refl _ _⟩⟩
  case round =>
    obtain ⟨i, A', c', m, rfl, rfl, C⟩ := hrel
    rename World => W0
    have HL := Lib.hid C
    have hz2 : w.heap.size + 1 ≤ W0.heap.size := Nat.le_trans hz1 C.bel.size
    have hml : m ≤ l.length := by rw [C.len]; exact filt_len
    clear C
    by_cases hlt : i < l.length
    · have hsx := HA.out l[i] (List.getElem_mem hlt)
      have HSK := Lib.hid (fun (W : World) (hW : Lp w w1 W [] l (ltb v) i A' c' m) => hW.skip hlt)
      obtain ⟨ad, hA, _, g0, g1⟩ := (HSr.out.below ((HB1.out.trans (HL.out.bel.mono (by omega))).mono hK)).get2 hlt
      subst hA
      have u0 := g0 _ rfl
      have u1 := g1 1 (.int .u32 l[i].t) (by decide) rfl
      have u2 := g1 2 (.int .u32 l[i].m) (by decide) rfl
      have u3 := g1 3 (.int .i64 l[i].k) (by decide) rfl
      have u4 := g1 4 (.int .i64 l[i].n) (by decide) rfl
      have u5 := g1 5 (.string l[i].x) (by decide) rfl
      have z0 := (HL.out.bel.cell (p := ⟨w.heap.size, 0, none⟩) (by simp)).trans y0
      have z1 := (HL.out.bel.cell (p := ⟨w.heap.size, 1, none⟩) (by simp)).trans y1
      have z2 := (HL.out.bel.cell (p := ⟨w.heap.size, 2, none⟩) (by simp)).trans y2
      have z3 := (HL.out.bel.cell (p := ⟨w.heap.size, 3, none⟩) (by simp)).trans y3
      have z4 := (HL.out.bel.cell (p := ⟨w.heap.size, 4, none⟩) (by simp)).trans y4
      have z5 := (HL.out.bel.cell (p := ⟨w.heap.size, 5, none⟩) (by simp)).trans y5
      have HTK := Lib.hid (filt_succ (p := ltb v) hlt)
      generalize l[i] = x at *
      clear g0 g1
      unfold sameAt at hsx
      have hsx := of_decide_eq_false hsx
      have HBE := Lib.hid (fun w => rbelow_any x.w x.t x.m v.w v.t v.m w)
      by_cases h1 : x.w = v.w
      · by_cases h2 : x.t = v.t
        · have h3 : x.m ≠ v.m := fun h3 => hsx ⟨h1, h2, h3⟩
          have e0 : (x.w == v.w) = true := by simpa using h1
          have e1 : (x.t == v.t) = true := by simpa using h2
          have e2 : (x.m == v.m) = false := by simpa using h3
          clear h1 h2 h3
          clear hsx
          go_wp2_with fail
          go_big_quiet (fail)
          cases hb : ltb v x with
          | true =>
            rw [show belowB _ _ _ _ _ _ = true from hb] at HBE
            go_upto_region 9 with fail
            go_cut [33] (fun u wx => u = .bool true ∧ Below W0.heap.size W0 wx)
            case first =>
              go_wp2_with fail
              go_region_law (first
                | (go_simp; go_at_call 23; refine (HBE.out _).mono ?_; rintro e w3 ⟨rfl, b3⟩))
              all_goals
                go_wp2_with fail
                go_meet
                exact ⟨rfl, ((below_drewN _ _ _).trans b3)⟩
            case rest =>
              obtain ⟨rfl, b3⟩ := hcut
              rename World => w3
              have HL3 := Lib.hid (HL.out.below hz1 b3)
              have hz3 : w.heap.size + 1 ≤ w3.heap.size := Nat.le_trans hz2 b3.size
              have t0 := kept b3 u0
              have t1 := kept b3 u1
              have t2 := kept b3 u2
              have t3 := kept b3 u3
              have t4 := kept b3 u4
              have t5 := kept b3 u5
              clear b3
              have HSO := Lib.hid HL3.out.so
              have HBW := Lib.hid (HL3.out.bel)
              have hlen := Lib.hid HL3.out.len
              go_wp2_with (at_builtin; refine wpList_pushE Try.underlying34 info_rv rfl (by decide) w3 rfl (.tmp 34) (.tmp 39) rfl (w.heap.size + 1) (.slice A' m c') _ rfl HSO.out x _ rfl rfl (encV_one _) _ w3.heap.size rfl rfl (m + 1) (by rw [← hlen.out]) (by unfold maxLen; omega) (by omega) hz3 ?_; intro A2 cap2 w2 hps2 hgrow2 hat2; have B2 : Below (w.heap.size + 1) w1 w2 := grown_belowE HBW.out hgrow2 hz3 (fun _ h => (HSO.out.lt _ h).1))
              go_roundw
              case rel => exact ⟨i + 1, A2, cap2, m + 1, by go_num, rfl, HL3.out.push hlt HTK.out hb hps2 B2⟩
              case measure => simp [intOf]; omega
          | false =>
            rw [show belowB _ _ _ _ _ _ = false from hb] at HBE
            go_upto_region 9 with fail
            go_cut [33] (fun u wx => u = .bool false ∧ Below W0.heap.size W0 wx)
            case first =>
              go_wp2_with fail
              go_region_law (first
                | (go_simp; go_at_call 23; refine (HBE.out _).mono ?_; rintro e w3 ⟨rfl, b3⟩))
              all_goals
                go_wp2_with fail
                go_meet
                exact ⟨rfl, ((below_drewN _ _ _).trans b3)⟩
            case rest =>
              obtain ⟨rfl, b3⟩ := hcut
              rename World => w3
              have HL3 := Lib.hid (HL.out.below hz1 b3)
              have hz3 : w.heap.size + 1 ≤ w3.heap.size := Nat.le_trans hz2 b3.size
              have t0 := kept b3 u0
              have t1 := kept b3 u1
              have t2 := kept b3 u2
              have t3 := kept b3 u3
              have t4 := kept b3 u4
              have t5 := kept b3 u5
              go_wp2
              go_roundw
              case rel => exact ⟨i + 1, A', c', m, by go_num, rfl, HSK.out _ HL3.out hb⟩
              case measure => simp [intOf]; omega
        · skip
          have e0 : (x.w == v.w) = true := by simpa using h1
          have e1 : (x.t == v.t) = false := by simpa using h2
          clear h1 h2
          clear hsx
          go_wp2_with fail
          go_big_quiet (fail)
          cases hb : ltb v x with
          | true =>
            rw [show belowB _ _ _ _ _ _ = true from hb] at HBE
            go_upto_region 9 with fail
            go_cut [33] (fun u wx => u = .bool true ∧ Below W0.heap.size W0 wx)
            case first =>
              go_wp2_with fail
              go_region_law (first
                | (go_simp; go_at_call 23; refine (HBE.out _).mono ?_; rintro e w3 ⟨rfl, b3⟩))
              all_goals
                go_wp2_with fail
                go_meet
                exact ⟨rfl, ((below_drewN _ _ _).trans b3)⟩
            case rest =>
              obtain ⟨rfl, b3⟩ := hcut
              rename World => w3
              have HL3 := Lib.hid (HL.out.below hz1 b3)
              have hz3 : w.heap.size + 1 ≤ w3.heap.size := Nat.le_trans hz2 b3.size
              have t0 := kept b3 u0
              have t1 := kept b3 u1
              have t2 := kept b3 u2
              have t3 := kept b3 u3
              have t4 := kept b3 u4
              have t5 := kept b3 u5
              clear b3
              have HSO := Lib.hid HL3.out.so
              have HBW := Lib.hid (HL3.out.bel)
              have hlen := Lib.hid HL3.out.len
              go_wp2_with (at_builtin; refine wpList_pushE Try.underlying34 info_rv rfl (by decide) w3 rfl (.tmp 34) (.tmp 39) rfl (w.heap.size + 1) (.slice A' m c') _ rfl HSO.out x _ rfl rfl (encV_one _) _ w3.heap.size rfl rfl (m + 1) (by rw [← hlen.out]) (by unfold maxLen; omega) (by omega) hz3 ?_; intro A2 cap2 w2 hps2 hgrow2 hat2; have B2 : Below (w.heap.size + 1) w1 w2 := grown_belowE HBW.out hgrow2 hz3 (fun _ h => (HSO.out.lt _ h).1))
              go_roundw
              case rel => exact ⟨i + 1, A2, cap2, m + 1, by go_num, rfl, HL3.out.push hlt HTK.out hb hps2 B2⟩
              case measure => simp [intOf]; omega
          | false =>
            rw [show belowB _ _ _ _ _ _ = false from hb] at HBE
            go_upto_region 9 with fail
            go_cut [33] (fun u wx => u = .bool false ∧ Below W0.heap.size W0 wx)
            case first =>
              go_wp2_with fail
              go_region_law (first
                | (go_simp; go_at_call 23; refine (HBE.out _).mono ?_; rintro e w3 ⟨rfl, b3⟩))
              all_goals
                go_wp2_with fail
                go_meet
                exact ⟨rfl, ((below_drewN _ _ _).trans b3)⟩
            case rest =>
              obtain ⟨rfl, b3⟩ := hcut
              rename World => w3
              have HL3 := Lib.hid (HL.out.below hz1 b3)
              have hz3 : w.heap.size + 1 ≤ w3.heap.size := Nat.le_trans hz2 b3.size
              have t0 := kept b3 u0
              have t1 := kept b3 u1
              have t2 := kept b3 u2
              have t3 := kept b3 u3
              have t4 := kept b3 u4
              have t5 := kept b3 u5
              go_wp2
              go_roundw
              case rel => exact ⟨i + 1, A', c', m, by go_num, rfl, HSK.out _ HL3.out hb⟩
              case measure => simp [intOf]; omega
      · skip
        have e1 : (x.w == v.w) = false := by simpa using h1
        clear hsx
        go_wp2_with fail
        go_big_quiet (fail)
        cases hb : ltb v x with
        | true =>
          rw [show belowB _ _ _ _ _ _ = true from hb] at HBE
          go_upto_region 9 with fail
          go_cut [33] (fun u wx => u = .bool true ∧ Below W0.heap.size W0 wx)
          case first =>
            go_wp2_with fail
            go_region_law (first
              | (go_simp; go_at_call 23; refine (HBE.out _).mono ?_; rintro e w3 ⟨rfl, b3⟩))
            all_goals
              go_wp2_with fail
              go_meet
              exact ⟨rfl, ((below_drewN _ _ _).trans b3)⟩
          case rest =>
            obtain ⟨rfl, b3⟩ := hcut
            rename World => w3
            have HL3 := Lib.hid (HL.out.below hz1 b3)
            have hz3 : w.heap.size + 1 ≤ w3.heap.size := Nat.le_trans hz2 b3.size
            have t0 := kept b3 u0
            have t1 := kept b3 u1
            have t2 := kept b3 u2
            have t3 := kept b3 u3
            have t4 := kept b3 u4
            have t5 := kept b3 u5
            clear b3
            have HSO := Lib.hid HL3.out.so
            have HBW := Lib.hid (HL3.out.bel)
            have hlen := Lib.hid HL3.out.len
            go_wp2_with (at_builtin; refine wpList_pushE Try.underlying34 info_rv rfl (by decide) w3 rfl (.tmp 34) (.tmp 39) rfl (w.heap.size + 1) (.slice A' m c') _ rfl HSO.out x _ rfl rfl (encV_one _) _ w3.heap.size rfl rfl (m + 1) (by rw [← hlen.out]) (by unfold maxLen; omega) (by omega) hz3 ?_; intro A2 cap2 w2 hps2 hgrow2 hat2; have B2 : Below (w.heap.size + 1) w1 w2 := grown_belowE HBW.out hgrow2 hz3 (fun _ h => (HSO.out.lt _ h).1))
            go_roundw
            case rel => exact ⟨i + 1, A2, cap2, m + 1, by go_num, rfl, HL3.out.push hlt HTK.out hb hps2 B2⟩
            case measure => simp [intOf]; omega
        | false =>
          rw [show belowB _ _ _ _ _ _ = false from hb] at HBE
          go_upto_region 9 with fail
          go_cut [33] (fun u wx => u = .bool false ∧ Below W0.heap.size W0 wx)
          case first =>
            go_wp2_with fail
            go_region_law (first
              | (go_simp; go_at_call 23; refine (HBE.out _).mono ?_; rintro e w3 ⟨rfl, b3⟩))
            all_goals
              go_wp2_with fail
              go_meet
              exact ⟨rfl, ((below_drewN _ _ _).trans b3)⟩
          case rest =>
            obtain ⟨rfl, b3⟩ := hcut
            rename World => w3
            have HL3 := Lib.hid (HL.out.below hz1 b3)
            have hz3 : w.heap.size + 1 ≤ w3.heap.size := Nat.le_trans hz2 b3.size
            have t0 := kept b3 u0
            have t1 := kept b3 u1
            have t2 := kept b3 u2
            have t3 := kept b3 u3
            have t4 := kept b3 u4
            have t5 := kept b3 u5
            go_wp2
            go_roundw
            case rel => exact ⟨i + 1, A', c', m, by go_num, rfl, HSK.out _ HL3.out hb⟩
            case measure => simp [intOf]; omega
    · have hle0 := HL.out.le
      obtain rfl : i = l.length := by omega
      have z0 := (HL.out.bel.cell (p := ⟨w.heap.size, 0, none⟩) (by simp)).trans y0
      have z1 := (HL.out.bel.cell (p := ⟨w.heap.size, 1, none⟩) (by simp)).trans y1
      have z2 := (HL.out.bel.cell (p := ⟨w.heap.size, 2, none⟩) (by simp)).trans y2
      have z3 := (HL.out.bel.cell (p := ⟨w.heap.size, 3, none⟩) (by simp)).trans y3
      have z4 := (HL.out.bel.cell (p := ⟨w.heap.size, 4, none⟩) (by simp)).trans y4
      have z5 := (HL.out.bel.cell (p := ⟨w.heap.size, 5, none⟩) (by simp)).trans y5
      have HSO := Lib.hid HL.out.so
      have HBW := Lib.hid HL.out.bel
      have hlen := Lib.hid HL.out.len
      have hz3 := hz2
      go_wp2_with (at_builtin; refine wpList_pushE Try.underlying34 info_rv rfl (by decide) W0 rfl (.tmp 41) (.tmp 43) rfl (w.heap.size + 1) (.slice A' m c') _ rfl HSO.out v _ rfl rfl (encV_one _) _ W0.heap.size rfl rfl (m + 1) (by rw [← hlen.out]) (by unfold maxLen; omega) (by omega) hz3 ?_; intro A2 cap2 w2 hps2 hgrow2 hat2; have B2 : Below (w.heap.size + 1) w1 w2 := grown_belowE HBW.out hgrow2 hz3 (fun _ h => (HSO.out.lt _ h).1))
      have HX1 : Hid (Lp w w1 w2 (([] ++ (l.take l.length).filter (ltb v)) ++ [v]) l (gtb v) 0 A2 cap2 (m + 1)) := Lib.hid ⟨Nat.zero_le _, by simpa using hps2, by rw [List.take_zero, List.filter_nil, List.append_nil, List.length_append, ← hlen.out]; rfl, B2⟩
      clear hps2 hgrow2 hat2 B2 HSO HBW HL
      go_wp2_with fail
      go_loopw [6, 8] (fun sv iv wr => ∃ (i : Nat) (A' : Option Addr) (c' m : Nat), iv = .int .i64 (i : Int) ∧ sv = .slice A' m c' ∧ Lp w w1 wr (([] ++ (l.take l.length).filter (ltb v)) ++ [v]) l (gtb v) i A' c' m) (fun _ iv _ => l.length - (intOf iv).toNat)
      case atStart => exact ⟨0, A2, cap2, m + 1, rfl, rfl, HX1.out⟩
      case round =>
        clear HX1 hml z0 z1 z2 z3 z4 z5
        obtain ⟨i, A', c', m, rfl, rfl, C⟩ := hrel
        rename World => W0
        have HL := Lib.hid C
        have hz2 : w.heap.size + 1 ≤ W0.heap.size := Nat.le_trans hz1 C.bel.size
        have hml : m ≤ 2 * l.length + 1 := by
          have h1 := C.len
          rw [List.length_append, List.length_append, List.length_append] at h1
          have h2 := @filt_len l (ltb v) l.length
          have h3 := @filt_len l (gtb v) i
          simp only [List.length_nil, List.length_cons] at h1
          omega
        clear C
        by_cases hlt : i < l.length
        · have HSK := Lib.hid (fun (W : World) (hW : Lp w w1 W (([] ++ (l.take l.length).filter (ltb v)) ++ [v]) l (gtb v) i A' c' m) => hW.skip hlt)
          obtain ⟨ad, hA, _, g0, g1⟩ := (HSr.out.below ((HB1.out.trans (HL.out.bel.mono (by omega))).mono hK)).get2 hlt
          subst hA
          have u0 := g0 _ rfl
          have u1 := g1 1 (.int .u32 l[i].t) (by decide) rfl
          have u2 := g1 2 (.int .u32 l[i].m) (by decide) rfl
          have u3 := g1 3 (.int .i64 l[i].k) (by decide) rfl
          have u4 := g1 4 (.int .i64 l[i].n) (by decide) rfl
          have u5 := g1 5 (.string l[i].x) (by decide) rfl
          have z0 := (HL.out.bel.cell (p := ⟨w.heap.size, 0, none⟩) (by simp)).trans y0
          have z1 := (HL.out.bel.cell (p := ⟨w.heap.size, 1, none⟩) (by simp)).trans y1
          have z2 := (HL.out.bel.cell (p := ⟨w.heap.size, 2, none⟩) (by simp)).trans y2
          have z3 := (HL.out.bel.cell (p := ⟨w.heap.size, 3, none⟩) (by simp)).trans y3
          have z4 := (HL.out.bel.cell (p := ⟨w.heap.size, 4, none⟩) (by simp)).trans y4
          have z5 := (HL.out.bel.cell (p := ⟨w.heap.size, 5, none⟩) (by simp)).trans y5
          have HTK := Lib.hid (filt_succ (p := gtb v) hlt)
          generalize l[i] = x at *
          clear g0 g1
          have HBE := Lib.hid (fun w => rbelow_any v.w v.t v.m x.w x.t x.m w)
          go_wp2_with fail
          cases hb : gtb v x with
          | true =>
            rw [show belowB _ _ _ _ _ _ = true from hb] at HBE
            go_upto_region 15 with fail
            go_cut [58] (fun u wx => u = .bool true ∧ Below W0.heap.size W0 wx)
            case first =>
              go_wp2_with fail
              go_region_law (first
                | (go_simp; go_at_call 23; refine (HBE.out _).mono ?_; rintro e w3 ⟨rfl, b3⟩))
              all_goals
                go_wp2_with fail
                go_meet
                exact ⟨rfl, ((below_drewN _ _ _).trans b3)⟩
            case rest =>
              obtain ⟨rfl, b3⟩ := hcut
              rename World => w3
              have HL3 := Lib.hid (HL.out.below hz1 b3)
              have hz3 : w.heap.size + 1 ≤ w3.heap.size := Nat.le_trans hz2 b3.size
              have t0 := kept b3 u0
              have t1 := kept b3 u1
              have t2 := kept b3 u2
              have t3 := kept b3 u3
              have t4 := kept b3 u4
              have t5 := kept b3 u5
              clear b3
              have HSO := Lib.hid HL3.out.so
              have HBW := Lib.hid (HL3.out.bel)
              have hlen := Lib.hid HL3.out.len
              go_wp2_with (at_builtin; refine wpList_pushE Try.underlying34 info_rv rfl (by decide) w3 rfl (.tmp 59) (.tmp 64) rfl (w.heap.size + 1) (.slice A' m c') _ rfl HSO.out x _ rfl rfl (encV_one _) _ w3.heap.size rfl rfl (m + 1) (by rw [← hlen.out]) (by unfold maxLen; omega) (by omega) hz3 ?_; intro A2 cap2 w2 hps2 hgrow2 hat2; have B2 : Below (w.heap.size + 1) w1 w2 := grown_belowE HBW.out hgrow2 hz3 (fun _ h => (HSO.out.lt _ h).1))
              go_roundw
              case rel => exact ⟨i + 1, A2, cap2, m + 1, by go_num, rfl, HL3.out.push hlt HTK.out hb hps2 B2⟩
              case measure => simp [intOf]; omega
          | false =>
            rw [show belowB _ _ _ _ _ _ = false from hb] at HBE
            go_upto_region 15 with fail
            go_cut [58] (fun u wx => u = .bool false ∧ Below W0.heap.size W0 wx)
            case first =>
              go_wp2_with fail
              go_region_law (first
                | (go_simp; go_at_call 23; refine (HBE.out _).mono ?_; rintro e w3 ⟨rfl, b3⟩))
              all_goals
                go_wp2_with fail
                go_meet
                exact ⟨rfl, ((below_drewN _ _ _).trans b3)⟩
            case rest =>
              obtain ⟨rfl, b3⟩ := hcut
              rename World => w3
              have HL3 := Lib.hid (HL.out.below hz1 b3)
              have hz3 : w.heap.size + 1 ≤ w3.heap.size := Nat.le_trans hz2 b3.size
              have t0 := kept b3 u0
              have t1 := kept b3 u1
              have t2 := kept b3 u2
              have t3 := kept b3 u3
              have t4 := kept b3 u4
              have t5 := kept b3 u5
              go_wp2
              go_roundw
              case rel => exact ⟨i + 1, A', c', m, by go_num, rfl, HSK.out _ HL3.out hb⟩
              case measure => simp [intOf]; omega
        · have hle2 := HL.out.le
          obtain rfl : i = l.length := by omega
          have e : (([] ++ (l.take l.length).filter (ltb v)) ++ [v]) ++ (l.take l.length).filter (gtb v) = l.filter (ltb v) ++ v :: l.filter (gtb v) := by simp
          have so := HL.out.so
          have hm := HL.out.len
          rw [e] at so hm
          obtain ⟨L, hLL⟩ : ∃ L, L = l.filter (ltb v) ++ v :: l.filter (gtb v) := ⟨_, rfl⟩
          rw [← hLL] at so hm
          have HF := Lib.hid (HB1.out.trans (HL.out.bel.mono (by omega)))
          have HLL := Lib.hid hLL
          have HSO2 := Lib.hid so
          subst hm
          clear hLL so e
          go_wp2
          refine bodyPost_ret (v := .tuple #[.slice A' L.length c', .int .i64 0]) (by simp [results, Try.results27, go_sem]) rfl ?_
          rw [← HLL.out]
          exact ⟨A', c', rfl, (HSO2.out.sr encV_len).1, HF.out, fun ad h => Nat.le_trans (Nat.le_succ _) (HSO2.out.lt ad.block (by rw [h]; rfl)).1⟩
set_option maxRecDepth 100000 in
set_option maxHeartbeats 6400000 in
theorem rput_dup (h : Sr encV 6 w K A cap l) (hK : K ≤ w.heap.size) (hmx : l.length ≤ 900000) (hx : v.x.size ≤ maxLen) (hr : rightV v = true) (ha : l.any (sameAt · v) = true) : Calls Try.prog 27 #[.slice A l.length cap, agV v] w (PutP w (7, [])) := by
  have hcl := h.le
  have hcm := h.max
  unfold maxLen at hcm
  have HSr := Lib.hid h
  have HR := Lib.hid (fun w => vrright_any v w hx)
  rw [hr] at HR
  clear h hx
  go_enter Try.func27, Try.ntmps27
  have HB0 := Lib.hid ((Below.refl w.heap.size w).alloc (Nat.le_refl _) (.cells #[.int .i64 v.w, .int .u32 v.t, .int .u32 v.m, .int .i64 v.k, .int .i64 v.n, .string v.x] 26))
  go_wp2_with fail
  refine (HR.out _).mono ?_
  rintro e w1 ⟨rfl, b1⟩
  have y0 : w1.cell? ⟨w.heap.size, 0, none⟩ = some (.int .i64 v.w) := kept b1 (by simp)
  have y1 : w1.cell? ⟨w.heap.size, 1, none⟩ = some (.int .u32 v.t) := kept b1 (by simp)
  have y2 : w1.cell? ⟨w.heap.size, 2, none⟩ = some (.int .u32 v.m) := kept b1 (by simp)
  have y3 : w1.cell? ⟨w.heap.size, 3, none⟩ = some (.int .i64 v.k) := kept b1 (by simp)
  have y4 : w1.cell? ⟨w.heap.size, 4, none⟩ = some (.int .i64 v.n) := kept b1 (by simp)
  have y5 : w1.cell? ⟨w.heap.size, 5, none⟩ = some (.string v.x) := kept b1 (by simp)
  have HB1 := Lib.hid (HB0.out.trans (b1.mono HB0.out.size))
  have hz1 : w.heap.size + 1 ≤ w1.heap.size := Nat.le_trans (by simp) b1.size
  clear b1 HB0
  have HA := Lib.hid ha
  clear ha
  go_wp2_with fail
  go_loopw [6, 7] (fun sv iv wr => ∃ (i : Nat) (A' : Option Addr) (c' m : Nat), iv = .int .i64 (i : Int) ∧ sv = .slice A' m c' ∧ Lp w w1 wr [] l (ltb v) i A' c' m ∧ ∀ j (hj : j < l.length), j < i → sameAt l[j] v = false) (fun _ iv _ => l.length - (intOf iv).toNat)
  case atStart => exact ⟨0, none, 0, 0, rfl, rfl, ⟨Nat.zero_le _, So.empty _ _ _ _ _, rfl, Below.refl _ _⟩, fun j _ h => by omega⟩
  case round =>
    obtain ⟨i, A', c', m, rfl, rfl, C, hno⟩ := hrel
    rename World => W0
    have HL := Lib.hid C
    have hz2 : w.heap.size + 1 ≤ W0.heap.size := Nat.le_trans hz1 C.bel.size
    have hml : m ≤ l.length := by rw [C.len]; exact filt_len
    clear C
    by_cases hlt : i < l.length
    · have HSK := Lib.hid (fun (W : World) (hW : Lp w w1 W [] l (ltb v) i A' c' m) => hW.skip hlt)
      have HNO := Lib.hid (fun (h : sameAt l[i] v = false) j (hj : j < l.length) (hji : j < i + 1) => by
        rcases Nat.lt_or_ge j i with h1 | h1
        · exact hno j hj h1
        · obtain rfl : j = i := by omega
          exact h)
      clear hno
      obtain ⟨ad, hA, _, g0, g1⟩ := (HSr.out.below ((HB1.out.trans (HL.out.bel.mono (by omega))).mono hK)).get2 hlt
      subst hA
      have u0 := g0 _ rfl
      have u1 := g1 1 (.int .u32 l[i].t) (by decide) rfl
      have u2 := g1 2 (.int .u32 l[i].m) (by decide) rfl
      have u3 := g1 3 (.int .i64 l[i].k) (by decide) rfl
      have u4 := g1 4 (.int .i64 l[i].n) (by decide) rfl
      have u5 := g1 5 (.string l[i].x) (by decide) rfl
      have z0 := (HL.out.bel.cell (p := ⟨w.heap.size, 0, none⟩) (by simp)).trans y0
      have z1 := (HL.out.bel.cell (p := ⟨w.heap.size, 1, none⟩) (by simp)).trans y1
      have z2 := (HL.out.bel.cell (p := ⟨w.heap.size, 2, none⟩) (by simp)).trans y2
      have z3 := (HL.out.bel.cell (p := ⟨w.heap.size, 3, none⟩) (by simp)).trans y3
      have z4 := (HL.out.bel.cell (p := ⟨w.heap.size, 4, none⟩) (by simp)).trans y4
      have z5 := (HL.out.bel.cell (p := ⟨w.heap.size, 5, none⟩) (by simp)).trans y5
      have HTK := Lib.hid (filt_succ (p := ltb v) hlt)
      generalize l[i] = x at *
      clear g0 g1
      have HBE := Lib.hid (fun w => rbelow_any x.w x.t x.m v.w v.t v.m w)
      by_cases hsx : x.w = v.w ∧ x.t = v.t ∧ x.m = v.m
      · obtain ⟨h1, h2, h3⟩ := hsx
        have e0 : (x.w == v.w) = true := by simpa using h1
        have e1 : (x.t == v.t) = true := by simpa using h2
        have e2 : (x.m == v.m) = true := by simpa using h3
        clear h1 h2 h3
        go_wp2_with fail
        go_big_quiet (fail)
        have HF := Lib.hid (HB1.out.trans (HL.out.bel.mono (by omega)))
        go_wp2
        exact bodyPost_ret (v := .tuple #[.slice none 0 0, .int .i64 7]) (by simp [results, Try.results27, go_sem]) rfl ⟨none, 0, rfl, Sr.none_ _ _, HF.out.trans ((below_drewN _ _ _).mono HF.out.size), fun _ h => by cases h⟩
      have HNX := Lib.hid (HNO.out (decide_eq_false hsx))
      clear HNO
      by_cases h1 : x.w = v.w
      · by_cases h2 : x.t = v.t
        · have h3 : x.m ≠ v.m := fun h3 => hsx ⟨h1, h2, h3⟩
          have e0 : (x.w == v.w) = true := by simpa using h1
          have e1 : (x.t == v.t) = true := by simpa using h2
          have e2 : (x.m == v.m) = false := by simpa using h3
          clear h1 h2 h3
          clear hsx
          go_wp2_with fail
          go_big_quiet (fail)
          cases hb : ltb v x with
          | true =>
            rw [show belowB _ _ _ _ _ _ = true from hb] at HBE
            go_upto_region 9 with fail
            go_cut [33] (fun u wx => u = .bool true ∧ Below W0.heap.size W0 wx)
            case first =>
              go_wp2_with fail
              go_region_law (first
                | (go_simp; go_at_call 23; refine (HBE.out _).mono ?_; rintro e w3 ⟨rfl, b3⟩))
              all_goals
                go_wp2_with fail
                go_meet
                exact ⟨rfl, ((below_drewN _ _ _).trans b3)⟩
            case rest =>
              obtain ⟨rfl, b3⟩ := hcut
              rename World => w3
              have HL3 := Lib.hid (HL.out.below hz1 b3)
              have hz3 : w.heap.size + 1 ≤ w3.heap.size := Nat.le_trans hz2 b3.size
              have t0 := kept b3 u0
              have t1 := kept b3 u1
              have t2 := kept b3 u2
              have t3 := kept b3 u3
              have t4 := kept b3 u4
              have t5 := kept b3 u5
              clear b3
              have HSO := Lib.hid HL3.out.so
              have HBW := Lib.hid (HL3.out.bel)
              have hlen := Lib.hid HL3.out.len
              go_wp2_with (at_builtin; refine wpList_pushE Try.underlying34 info_rv rfl (by decide) w3 rfl (.tmp 34) (.tmp 39) rfl (w.heap.size + 1) (.slice A' m c') _ rfl HSO.out x _ rfl rfl (encV_one _) _ w3.heap.size rfl rfl (m + 1) (by rw [← hlen.out]) (by unfold maxLen; omega) (by omega) hz3 ?_; intro A2 cap2 w2 hps2 hgrow2 hat2; have B2 : Below (w.heap.size + 1) w1 w2 := grown_belowE HBW.out hgrow2 hz3 (fun _ h => (HSO.out.lt _ h).1))
              go_roundw
              case rel => exact ⟨i + 1, A2, cap2, m + 1, by go_num, rfl, HL3.out.push hlt HTK.out hb hps2 B2, HNX.out⟩
              case measure => simp [intOf]; omega
          | false =>
            rw [show belowB _ _ _ _ _ _ = false from hb] at HBE
            go_upto_region 9 with fail
            go_cut [33] (fun u wx => u = .bool false ∧ Below W0.heap.size W0 wx)
            case first =>
              go_wp2_with fail
              go_region_law (first
                | (go_simp; go_at_call 23; refine (HBE.out _).mono ?_; rintro e w3 ⟨rfl, b3⟩))
              all_goals
                go_wp2_with fail
                go_meet
                exact ⟨rfl, ((below_drewN _ _ _).trans b3)⟩
            case rest =>
              obtain ⟨rfl, b3⟩ := hcut
              rename World => w3
              have HL3 := Lib.hid (HL.out.below hz1 b3)
              have hz3 : w.heap.size + 1 ≤ w3.heap.size := Nat.le_trans hz2 b3.size
              have t0 := kept b3 u0
              have t1 := kept b3 u1
              have t2 := kept b3 u2
              have t3 := kept b3 u3
              have t4 := kept b3 u4
              have t5 := kept b3 u5
              go_wp2
              go_roundw
              case rel => exact ⟨i + 1, A', c', m, by go_num, rfl, HSK.out _ HL3.out hb, HNX.out⟩
              case measure => simp [intOf]; omega
        · skip
          have e0 : (x.w == v.w) = true := by simpa using h1
          have e1 : (x.t == v.t) = false := by simpa using h2
          clear h1 h2
          clear hsx
          go_wp2_with fail
          go_big_quiet (fail)
          cases hb : ltb v x with
          | true =>
            rw [show belowB _ _ _ _ _ _ = true from hb] at HBE
            go_upto_region 9 with fail
            go_cut [33] (fun u wx => u = .bool true ∧ Below W0.heap.size W0 wx)
            case first =>
              go_wp2_with fail
              go_region_law (first
                | (go_simp; go_at_call 23; refine (HBE.out _).mono ?_; rintro e w3 ⟨rfl, b3⟩))
              all_goals
                go_wp2_with fail
                go_meet
                exact ⟨rfl, ((below_drewN _ _ _).trans b3)⟩
            case rest =>
              obtain ⟨rfl, b3⟩ := hcut
              rename World => w3
              have HL3 := Lib.hid (HL.out.below hz1 b3)
              have hz3 : w.heap.size + 1 ≤ w3.heap.size := Nat.le_trans hz2 b3.size
              have t0 := kept b3 u0
              have t1 := kept b3 u1
              have t2 := kept b3 u2
              have t3 := kept b3 u3
              have t4 := kept b3 u4
              have t5 := kept b3 u5
              clear b3
              have HSO := Lib.hid HL3.out.so
              have HBW := Lib.hid (HL3.out.bel)
              have hlen := Lib.hid HL3.out.len
              go_wp2_with (at_builtin; refine wpList_pushE Try.underlying34 info_rv rfl (by decide) w3 rfl (.tmp 34) (.tmp 39) rfl (w.heap.size + 1) (.slice A' m c') _ rfl HSO.out x _ rfl rfl (encV_one _) _ w3.heap.size rfl rfl (m + 1) (by rw [← hlen.out]) (by unfold maxLen; omega) (by omega) hz3 ?_; intro A2 cap2 w2 hps2 hgrow2 hat2; have B2 : Below (w.heap.size + 1) w1 w2 := grown_belowE HBW.out hgrow2 hz3 (fun _ h => (HSO.out.lt _ h).1))
              go_roundw
              case rel => exact ⟨i + 1, A2, cap2, m + 1, by go_num, rfl, HL3.out.push hlt HTK.out hb hps2 B2, HNX.out⟩
              case measure => simp [intOf]; omega
          | false =>
            rw [show belowB _ _ _ _ _ _ = false from hb] at HBE
            go_upto_region 9 with fail
            go_cut [33] (fun u wx => u = .bool false ∧ Below W0.heap.size W0 wx)
            case first =>
              go_wp2_with fail
              go_region_law (first
                | (go_simp; go_at_call 23; refine (HBE.out _).mono ?_; rintro e w3 ⟨rfl, b3⟩))
              all_goals
                go_wp2_with fail
                go_meet
                exact ⟨rfl, ((below_drewN _ _ _).trans b3)⟩
            case rest =>
              obtain ⟨rfl, b3⟩ := hcut
              rename World => w3
              have HL3 := Lib.hid (HL.out.below hz1 b3)
              have hz3 : w.heap.size + 1 ≤ w3.heap.size := Nat.le_trans hz2 b3.size
              have t0 := kept b3 u0
              have t1 := kept b3 u1
              have t2 := kept b3 u2
              have t3 := kept b3 u3
              have t4 := kept b3 u4
              have t5 := kept b3 u5
              go_wp2
              go_roundw
              case rel => exact ⟨i + 1, A', c', m, by go_num, rfl, HSK.out _ HL3.out hb, HNX.out⟩
              case measure => simp [intOf]; omega
      · skip
        have e1 : (x.w == v.w) = false := by simpa using h1
        clear hsx
        go_wp2_with fail
        go_big_quiet (fail)
        cases hb : ltb v x with
        | true =>
          rw [show belowB _ _ _ _ _ _ = true from hb] at HBE
          go_upto_region 9 with fail
          go_cut [33] (fun u wx => u = .bool true ∧ Below W0.heap.size W0 wx)
          case first =>
            go_wp2_with fail
            go_region_law (first
              | (go_simp; go_at_call 23; refine (HBE.out _).mono ?_; rintro e w3 ⟨rfl, b3⟩))
            all_goals
              go_wp2_with fail
              go_meet
              exact ⟨rfl, ((below_drewN _ _ _).trans b3)⟩
          case rest =>
            obtain ⟨rfl, b3⟩ := hcut
            rename World => w3
            have HL3 := Lib.hid (HL.out.below hz1 b3)
            have hz3 : w.heap.size + 1 ≤ w3.heap.size := Nat.le_trans hz2 b3.size
            have t0 := kept b3 u0
            have t1 := kept b3 u1
            have t2 := kept b3 u2
            have t3 := kept b3 u3
            have t4 := kept b3 u4
            have t5 := kept b3 u5
            clear b3
            have HSO := Lib.hid HL3.out.so
            have HBW := Lib.hid (HL3.out.bel)
            have hlen := Lib.hid HL3.out.len
            go_wp2_with (at_builtin; refine wpList_pushE Try.underlying34 info_rv rfl (by decide) w3 rfl (.tmp 34) (.tmp 39) rfl (w.heap.size + 1) (.slice A' m c') _ rfl HSO.out x _ rfl rfl (encV_one _) _ w3.heap.size rfl rfl (m + 1) (by rw [← hlen.out]) (by unfold maxLen; omega) (by omega) hz3 ?_; intro A2 cap2 w2 hps2 hgrow2 hat2; have B2 : Below (w.heap.size + 1) w1 w2 := grown_belowE HBW.out hgrow2 hz3 (fun _ h => (HSO.out.lt _ h).1))
            go_roundw
            case rel => exact ⟨i + 1, A2, cap2, m + 1, by go_num, rfl, HL3.out.push hlt HTK.out hb hps2 B2, HNX.out⟩
            case measure => simp [intOf]; omega
        | false =>
          rw [show belowB _ _ _ _ _ _ = false from hb] at HBE
          go_upto_region 9 with fail
          go_cut [33] (fun u wx => u = .bool false ∧ Below W0.heap.size W0 wx)
          case first =>
            go_wp2_with fail
            go_region_law (first
              | (go_simp; go_at_call 23; refine (HBE.out _).mono ?_; rintro e w3 ⟨rfl, b3⟩))
            all_goals
              go_wp2_with fail
              go_meet
              exact ⟨rfl, ((below_drewN _ _ _).trans b3)⟩
          case rest =>
            obtain ⟨rfl, b3⟩ := hcut
            rename World => w3
            have HL3 := Lib.hid (HL.out.below hz1 b3)
            have hz3 : w.heap.size + 1 ≤ w3.heap.size := Nat.le_trans hz2 b3.size
            have t0 := kept b3 u0
            have t1 := kept b3 u1
            have t2 := kept b3 u2
            have t3 := kept b3 u3
            have t4 := kept b3 u4
            have t5 := kept b3 u5
            go_wp2
            go_roundw
            case rel => exact ⟨i + 1, A', c', m, by go_num, rfl, HSK.out _ HL3.out hb, HNX.out⟩
            case measure => simp [intOf]; omega
    · exfalso
      have hle0 := HL.out.le
      obtain rfl : i = l.length := by omega
      obtain ⟨x, hx, hsx⟩ := List.any_eq_true.1 HA.out
      obtain ⟨j, hj, rfl⟩ := List.mem_iff_getElem.1 hx
      rw [hno j hj hj] at hsx
      cases hsx
theorem rput_any (h : Sr encV 6 w K A cap l) (hK : K ≤ w.heap.size) (hs : Chn l) (hmx : l.length ≤ 900000) (hv : Vok v) : Calls Try.prog 27 #[.slice A l.length cap, agV v] w (PutP w (putV l v)) := by
  cases hr : rightV v with
  | false =>
    have e : putV l v = (1, []) := by unfold putV; rw [if_pos hr]
    rw [e]
    exact rput_bad h hv.xs hr
  | true =>
    cases ha : l.any (sameAt · v) with
    | true =>
      have e : putV l v = (7, []) := by unfold putV; rw [if_neg (by simp [hr]), if_pos ha]
      rw [e]
      exact rput_dup h hK hmx hv.xs hr ha
    | false =>
      obtain ⟨f1, f2⟩ := filter_lt hs ha
      have e : putV l v = (0, l.filter (ltb v) ++ v :: l.filter (gtb v)) := by unfold putV; rw [if_neg (by simp [hr]), if_neg (by simp [ha]), f1, f2]
      rw [e]
      rw [List.any_eq_false] at ha
      exact rput_t h hK hmx hv.xs hr (fun x hx => by simpa using ha x hx)
end
end Go.Proofs.Ytbeclajbpfglgaa
