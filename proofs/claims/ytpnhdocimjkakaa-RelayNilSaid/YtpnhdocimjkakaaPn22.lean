/- A relay: leads, settle. -/
import Derived.Test.YtpnhdocimjkakaaPn21
import Derived.Deep.CutBlock
import Derived.RegionTactic
namespace Go.Proofs.Ytpnhdocimjkakaa
open Go.RowKit Go.BigFrame Go.Maps

theorem below_drewR {B : Nat} {a w : World} (h : Below B a w) (n : Nat) : Below B a (w.drewN n) := ⟨h.os, h.tape, h.output, h.size, h.block⟩
def leadsB (x : Rs) : Bool := decide (0 < x.ep) && (x.pr == x.id)
set_option maxRecDepth 100000 in
theorem leads_any {w : World} {b : Nat} {MA LA : Option Addr} {mc lc : Nat} {x : Rs} {AV : Value} (hb : Bxo w b #[.int .i64 x.id, .int .i64 x.ep, .int .i64 x.pr, .slice MA x.ms.length mc, .slice LA x.lg.length lc, .int .i64 x.jo, .int .i64 x.su, AV, .bool x.ac] 96) :
    Calls Try.prog 90 #[.pointer (some ⟨b, 0, none⟩)] w fun e w' => e = .returned (.bool (leadsB x)) ∧ Below w.heap.size w w' := by
  have y0 : w.cell? ⟨b, 0, none⟩ = some (.int .i64 x.id) := hb.cell rfl
  have y1 : w.cell? ⟨b, 1, none⟩ = some (.int .i64 x.ep) := hb.cell rfl
  have y2 : w.cell? ⟨b, 2, none⟩ = some (.int .i64 x.pr) := hb.cell rfl
  have yl := hb.lt
  clear hb
  cases c1 : decide (0 < x.ep) with
  | true =>
    have HL : Hid (leadsB x = (x.pr == x.id)) := Lib.hid (by unfold leadsB; rw [c1]; rfl)
    go_enter Try.func90, Try.ntmps90
    go_upto_region 1 with fail
    go_big_quiet (fail)
    go_wp2_with fail
    go_ret
    exact ⟨by rw [HL.out]; rfl, below_drewR (Below.refl _ _) _⟩
  | false =>
    have HL : Hid (leadsB x = false) := Lib.hid (by unfold leadsB; rw [c1]; rfl)
    go_enter Try.func90, Try.ntmps90
    go_upto_region 1 with fail
    go_big_quiet (fail)
    go_wp2_with fail
    go_ret
    exact ⟨by rw [HL.out]; rfl, below_drewR (Below.refl _ _) _⟩
set_option maxRecDepth 100000 in
theorem noack_any {w : World} {b b2 mb n : Nat} {MA LA : Option Addr} {mc lc : Nat} {x : Rs} {f : Int → Int} {h : Int → Bool} (hc : w.cell? ⟨b2, 0, none⟩ = some (.pointer (some ⟨b, 0, none⟩))) (hb : Bxo w b (rc x MA mc LA lc mb) 96) (hm : Im w mb n f h) (k : Int) (hk : I64 k) :
    Calls Try.prog 131 #[.int .i64 k, .pointer (some ⟨b2, 0, none⟩)] w fun e w' => e = .returned (.bool (!h k)) ∧ w = w' := by
  have y7 : w.cell? ⟨b, 7, none⟩ = some (.map (some mb)) := hb.cell rfl
  have hl := hm.look2 hk
  clear hb hm
  generalize h k = hv at *
  generalize f k = fv at *
  go_enter Try.func131, Try.ntmps131
  go_wp2_with fail
  go_ret
  exact ⟨rfl, rfl⟩
def FirstP (h : Int → Bool) (l : List Int) (w : World) (e : Ending) (w' : World) : Prop := ∃ r : Int, e = .returned (.int .i64 r) ∧ decide (0 ≤ r) = l.any (fun m => !h m) ∧ w = w'
theorem any_at {h : Int → Bool} {l : List Int} {k : Nat} (hk : k < l.length) (hh : h l[k] = false) : l.any (fun m => !h m) = true :=
  List.any_eq_true.2 ⟨l[k], List.getElem_mem hk, by rw [hh]; rfl⟩
theorem any_no {h : Int → Bool} {l : List Int} (hh : ∀ j (hj : j < l.length), h l[j] = true) : l.any (fun m => !h m) = false := by
  rw [List.any_eq_false]
  intro x hx
  obtain ⟨j, hj, rfl⟩ := List.getElem_of_mem hx
  rw [hh j hj]
  decide
set_option maxRecDepth 100000 in
set_option maxHeartbeats 1600000 in
theorem firstno_any {w : World} {b b2 mb n : Nat} {MA LA : Option Addr} {mc lc : Nat} {x : Rs} {f : Int → Int} {h : Int → Bool} (K : Nat) (A : Option Addr) (m cap : Nat) (l : List Int) (hn : l.length = m) (hp : Sr encI 1 w K A cap l) (hi : ∀ z ∈ l, I64 z)
    (hc : w.cell? ⟨b2, 0, none⟩ = some (.pointer (some ⟨b, 0, none⟩))) (hb : Bxo w b (rc x MA mc LA lc mb) 96) (hm : Im w mb n f h) :
    Calls Try.prog 130 #[.slice A m cap, .func (.func 131) #[] #[.pointer (some ⟨b2, 0, none⟩)]] w (FirstP h l w) := by
  subst hn
  have hle := hp.le
  have hmax := hp.max
  unfold maxLen at hmax
  have HP := Lib.hid hp
  have HI := Lib.hid hi
  have HG := Lib.hid (fun n (hn : I64 n) => noack_any (f := f) (h := h) hc hb hm n hn)
  clear hp hc hb hm hi
  go_enter Try.func130, Try.ntmps130
  go_wp2
  go_loop [8] (fun i => ∃ (k : Nat), k ≤ l.length ∧ i = .int .i64 k ∧ Hid (∀ j (hj : j < l.length), j < k → h l[j] = true)) (fun i => l.length - (intOf i).toNat)
  case atStart => exact ⟨0, Nat.zero_le _, rfl, Lib.hid (fun j _ h => absurd h (by omega))⟩
  case round =>
    obtain ⟨k, hk, rfl, HJ⟩ := hrel
    by_cases hlt : k < l.length
    · obtain ⟨ad, rfl, hadK, hcell⟩ := HP.out.int hlt
      have HA := Lib.hid (HG.out l[k] (HI.out _ (List.getElem_mem hlt)))
      have HX : Hid ((h l[k] = true → ∀ j (hj : j < l.length), j < k + 1 → h l[j] = true) ∧ (h l[k] = false → l.any (fun m => !h m) = true)) := Lib.hid ⟨fun hT j hj hjk => by
          by_cases e : j = k
          · subst e; exact hT
          · exact HJ.out j hj (by omega), fun hF => any_at hlt hF⟩
      generalize l[k] = z at *
      cases hd : h z with
      | true =>
        rw [hd] at HA
        have HI2 := Lib.hid (HX.out.1 hd)
        clear hd HX
        go_wp2_with (go_at_call 131; refine HA.out.mono ?_; rintro e w1 ⟨rfl, rfl⟩)
        go_round
        case rel => exact ⟨k + 1, by omega, by go_num, Lib.hid HI2.out⟩
        case measure => simp [intOf]; omega
      | false =>
        rw [hd] at HA
        have HI2 := Lib.hid (HX.out.2 hd)
        clear hd HX
        go_wp2_with (go_at_call 131; refine HA.out.mono ?_; rintro e w1 ⟨rfl, rfl⟩)
        go_ret
        exact ⟨(k : Int), rfl, by rw [HI2.out]; exact decide_eq_true (by omega), rfl⟩
    · have hkl : k = l.length := by omega
      subst hkl
      have HI2 : Hid (l.any (fun m => !h m) = false) := Lib.hid (any_no fun j hj => HJ.out j hj hj)
      go_wp2
      go_ret
      exact ⟨-1, rfl, by rw [HI2.out]; decide, rfl⟩
set_option maxRecDepth 100000 in
theorem contno_any {w : World} {b b2 mb n : Nat} {MA LA : Option Addr} {mc lc : Nat} {x : Rs} {f : Int → Int} {h : Int → Bool} (K : Nat) (A : Option Addr) (m cap : Nat) (l : List Int) (hn : l.length = m) (hp : Sr encI 1 w K A cap l) (hi : ∀ z ∈ l, I64 z)
    (hc : w.cell? ⟨b2, 0, none⟩ = some (.pointer (some ⟨b, 0, none⟩))) (hb : Bxo w b (rc x MA mc LA lc mb) 96) (hm : Im w mb n f h) :
    Calls Try.prog 132 #[.slice A m cap, .func (.func 131) #[] #[.pointer (some ⟨b2, 0, none⟩)]] w fun e w' => e = .returned (.bool (l.any fun m => !h m)) ∧ w = w' := by
  have HF := Lib.hid (firstno_any K A m cap l hn hp hi hc hb hm)
  clear hp hi hc hb hm
  go_enter Try.func132, Try.ntmps132
  go_wp2_with fail
  refine HF.out.mono ?_
  rintro e w1 ⟨r, rfl, hr, rfl⟩
  have HR := Lib.hid hr
  clear hr
  go_wp2_with fail
  go_ret
  exact ⟨ret_bool (by rw [← HR.out]), rfl⟩

def leastB (f : Int → Int) (l : List Int) (n : Int) : Int := l.foldl (fun a m => min a (f m)) n
theorem leastB_snoc (f : Int → Int) (l : List Int) (n : Int) (k : Nat) (hk : k < l.length) : leastB f (l.take (k + 1)) n = min (leastB f (l.take k) n) (f l[k]) := by
  unfold leastB
  rw [take_snocI l k hk, List.foldl_append]
  rfl
theorem leastB_bd (f : Int → Int) (hf : ∀ m, 0 ≤ f m) : ∀ (l : List Int) (n : Int), 0 ≤ n → 0 ≤ leastB f l n ∧ leastB f l n ≤ n
  | [], n, h => ⟨h, Int.le_refl _⟩
  | x :: l, n, h => by
    have h1 := hf x
    have := leastB_bd f hf l (min n (f x)) (by omega)
    unfold leastB at this ⊢
    rw [List.foldl_cons]
    omega
def settleR (f : Int → Int) (h : Int → Bool) (x : Rs) : Rs := if (x.ms.any fun m => !h m) = true then x else { x with ac := true, su := max x.su (leastB f x.ms x.lg.length) }
end Go.Proofs.Ytpnhdocimjkakaa
