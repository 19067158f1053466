/- The document's Number. -/
import Derived.Test.YtiigbkpfgbhlgaaDoorSxN
import Derived.LoopTactic
namespace Go.Proofs.YtiigbkpfgbhlgaaDoor
open Go.RowKit

def NumPost (w : World) (l : List UInt8) (most : Nat) (e : Ending) (w' : World) : Prop :=
  w = w' ∧ ∃ (n : Nat) (ok : Bool), e = .returned (.tuple #[.int .u64 n, .bool ok]) ∧ NumIs l most n ok
theorem byte_get (s : ByteArray) (k : Nat) (h : k < s.size) : s.data.toList[k]? = some s[k] := by
  have h' : k < s.data.size := h
  rw [Array.getElem?_toList, Array.getElem?_eq_getElem h']
  rfl

set_option maxRecDepth 100000 in
set_option maxHeartbeats 1600000 in
theorem number_any (t : ByteArray) (most : Nat) (w : World) (hm : most ≤ 9223372036854775807) : Calls Tryd.prog 18 #[.string t, .int .u64 most] w (NumPost w t.data.toList most) := by
  have HM := Lib.hid hm
  clear hm
  have hsz : t.data.toList.length = t.size := by simp
  by_cases h1 : t.size < 1
  · have HF : Hid (NumIs t.data.toList most 0 false) := Lib.hid (num_empty (by omega) _ _)
    clear hsz
    go_enter Tryd.func18, Tryd.ntmps18
    go_wp2_with fail
    go_ret2
    exact ⟨rfl, 0, false, rfl, HF.out⟩
  · by_cases h19 : 19 < t.size
    · have HF : Hid (NumIs t.data.toList most 0 false) := Lib.hid (num_long (by omega) HM.out _)
      clear hsz
      go_enter Tryd.func18, Tryd.ntmps18
      go_wp2_with fail
      go_ret2
      exact ⟨rfl, 0, false, rfl, HF.out⟩
    · have h0 : 0 < t.size := by omega
      have H1 : Hid (1 ≤ t.size) := Lib.hid (by omega)
      have H19 : Hid (t.size ≤ 19) := Lib.hid (by omega)
      have hb0 := byte_get t 0 h0
      have e1 : decide ((t.size : Int) < 1) = false := decide_eq_false (by omega)
      have e19 : decide (19 < (t.size : Int)) = false := decide_eq_false (by omega)
      by_cases hz : (t[0]).toNat = 48
      · have ez : (((t[0]).toNat : Int) == 48) = true := by rw [hz]; rfl
        have ezp : ((t[0]).toNat : Int) = 48 := by rw [hz]; rfl
        have hz8 : t[0] = 48 := UInt8.toNat_inj.1 hz
        by_cases hl : 1 < t.size
        · have HF : Hid (NumIs t.data.toList most 0 false) := Lib.hid (num_lead (by omega) (hb0.trans (congrArg some hz8)) _ _)
          have e2 : decide (1 < (t.size : Int)) = true := decide_eq_true (by omega)
          clear hsz hb0 hz hz8 h1 h19 hl
          go_enter Tryd.func18, Tryd.ntmps18
          go_wp2_with fail
          go_ret2
          exact ⟨rfl, 0, false, rfl, HF.out⟩
        · have HL : Hid (t.data.toList.length = 1 ∨ t.data.toList[0]? ≠ some 48) := Lib.hid (.inl (by omega))
          have e2 : decide (1 < (t.size : Int)) = false := decide_eq_false (by omega)
          clear hsz hb0 hz hz8 h1 h19 hl
          go_enter Tryd.func18, Tryd.ntmps18
          go_wp2_with fail
          go_loop [6, 7] (fun v i => ∃ k n : Nat, k ≤ t.size ∧ v = .int .u64 n ∧ i = .int .i64 k ∧ Hid (Got t.data.toList k n)) (fun _ i => t.size - (intOf i).toNat)
          case atStart => exact ⟨0, 0, Nat.zero_le _, rfl, rfl, Lib.hid (.inl ⟨rfl, rfl⟩)⟩
          case round =>
            obtain ⟨k, n, hk, rfl, rfl, HG⟩ := hrel
            clear ez ezp e1 e19
            by_cases hlt : k < t.size
            · have hget : t.data.toList[k]? = some t[k] := byte_get t k hlt
              have HGET := Lib.hid hget
              clear hget
              by_cases hlo : (t[k]).toNat < 48
              · have el : decide (((t[k]).toNat : Int) < 48) = true := decide_eq_true (by omega)
                have HF : Hid (NumIs t.data.toList most 0 false) := Lib.hid (num_byte HGET.out (.inl hlo) _ _)
                clear hlo
                go_wp2_with fail
                go_ret2
                exact ⟨rfl, 0, false, rfl, HF.out⟩
              · have el : decide (((t[k]).toNat : Int) < 48) = false := decide_eq_false (by omega)
                by_cases hhi : 57 < (t[k]).toNat
                · have eh : decide (57 < ((t[k]).toNat : Int)) = true := decide_eq_true (by omega)
                  have HF : Hid (NumIs t.data.toList most 0 false) := Lib.hid (num_byte HGET.out (.inr hhi) _ _)
                  clear hlo hhi
                  go_wp2_with fail
                  go_ret2
                  exact ⟨rfl, 0, false, rfl, HF.out⟩
                · have eh : decide (57 < ((t[k]).toNat : Int)) = false := decide_eq_false (by omega)
                  have HN : Hid (Got t.data.toList (k + 1) (n * 10 + ((t[k]).toNat - 48))) := Lib.hid (HG.out.step HGET.out (by omega) (by omega) HL.out)
                  have hnb := HN.out.lt (by have := H19.out; omega)
                  obtain ⟨V, hV, hW⟩ : ∃ V : Int, IntKind.u64.wrap ((n : Int) * 10) = V ∧ IntKind.u64.wrap (V + (((t[k]).toNat : Int) - 48)) = ((n * 10 + ((t[k]).toNat - 48) : Nat) : Int) := ⟨(n : Int) * 10, w64 (by omega) (by omega), by rw [w64 (by omega) (by omega)]; omega⟩
                  have q0 : (48 : Int) ≤ ((t[k]).toNat : Int) := by omega
                  have q1 : ((t[k]).toNat : Int) ≤ 57 := by omega
                  obtain ⟨n', hn'⟩ : ∃ n', n' = n * 10 + ((t[k]).toNat - 48) := ⟨_, rfl⟩
                  rw [← hn'] at HN hW
                  clear hlo hhi hnb hn'
                  have s19 := H19.out
                  go_wp2_with fail
                  go_round
                  case rel => exact ⟨k + 1, n', by omega, rfl, (by have := H19.out; go_num), HN⟩
                  case measure => have := H19.out; simp [intOf]; omega
            · have hks : k = t.size := by omega
              have HF : Hid (NumIs t.data.toList most n (decide (n ≤ most))) := Lib.hid (NumIs.end_ HM.out ((hks ▸ HG.out : Got t.data.toList t.size n).done (by have := H1.out; simp; omega)) ((hks ▸ HG.out : Got t.data.toList t.size n).lt H19.out))
              subst hks
              go_wp2_with fail
              go_ret2
              exact ⟨rfl, n, decide (n ≤ most), rfl, HF.out⟩
      · have ezp : ¬ ((t[0]).toNat : Int) = 48 := fun e => hz (by omega)
        have ez : (((t[0]).toNat : Int) == 48) = false := by simpa using ezp
        have HL : Hid (t.data.toList.length = 1 ∨ t.data.toList[0]? ≠ some 48) := Lib.hid (.inr (by rw [hb0]; intro e; injection e with e; exact hz (congrArg UInt8.toNat e)))
        clear hsz hb0 hz h1 h19
        go_enter Tryd.func18, Tryd.ntmps18
        go_wp2_with fail
        go_loop [6, 7] (fun v i => ∃ k n : Nat, k ≤ t.size ∧ v = .int .u64 n ∧ i = .int .i64 k ∧ Hid (Got t.data.toList k n)) (fun _ i => t.size - (intOf i).toNat)
        case atStart => exact ⟨0, 0, Nat.zero_le _, rfl, rfl, Lib.hid (.inl ⟨rfl, rfl⟩)⟩
        case round =>
          obtain ⟨k, n, hk, rfl, rfl, HG⟩ := hrel
          clear ez ezp e1 e19
          by_cases hlt : k < t.size
          · have hget : t.data.toList[k]? = some t[k] := byte_get t k hlt
            have HGET := Lib.hid hget
            clear hget
            by_cases hlo : (t[k]).toNat < 48
            · have el : decide (((t[k]).toNat : Int) < 48) = true := decide_eq_true (by omega)
              have HF : Hid (NumIs t.data.toList most 0 false) := Lib.hid (num_byte HGET.out (.inl hlo) _ _)
              clear hlo
              go_wp2_with fail
              go_ret2
              exact ⟨rfl, 0, false, rfl, HF.out⟩
            · have el : decide (((t[k]).toNat : Int) < 48) = false := decide_eq_false (by omega)
              by_cases hhi : 57 < (t[k]).toNat
              · have eh : decide (57 < ((t[k]).toNat : Int)) = true := decide_eq_true (by omega)
                have HF : Hid (NumIs t.data.toList most 0 false) := Lib.hid (num_byte HGET.out (.inr hhi) _ _)
                clear hlo hhi
                go_wp2_with fail
                go_ret2
                exact ⟨rfl, 0, false, rfl, HF.out⟩
              · have eh : decide (57 < ((t[k]).toNat : Int)) = false := decide_eq_false (by omega)
                have HN : Hid (Got t.data.toList (k + 1) (n * 10 + ((t[k]).toNat - 48))) := Lib.hid (HG.out.step HGET.out (by omega) (by omega) HL.out)
                have hnb := HN.out.lt (by have := H19.out; omega)
                obtain ⟨V, hV, hW⟩ : ∃ V : Int, IntKind.u64.wrap ((n : Int) * 10) = V ∧ IntKind.u64.wrap (V + (((t[k]).toNat : Int) - 48)) = ((n * 10 + ((t[k]).toNat - 48) : Nat) : Int) := ⟨(n : Int) * 10, w64 (by omega) (by omega), by rw [w64 (by omega) (by omega)]; omega⟩
                have q0 : (48 : Int) ≤ ((t[k]).toNat : Int) := by omega
                have q1 : ((t[k]).toNat : Int) ≤ 57 := by omega
                obtain ⟨n', hn'⟩ : ∃ n', n' = n * 10 + ((t[k]).toNat - 48) := ⟨_, rfl⟩
                rw [← hn'] at HN hW
                clear hlo hhi hnb hn'
                have s19 := H19.out
                go_wp2_with fail
                go_round
                case rel => exact ⟨k + 1, n', by omega, rfl, (by have := H19.out; go_num), HN⟩
                case measure => have := H19.out; simp [intOf]; omega
          · have hks : k = t.size := by omega
            have HF : Hid (NumIs t.data.toList most n (decide (n ≤ most))) := Lib.hid (NumIs.end_ HM.out ((hks ▸ HG.out : Got t.data.toList t.size n).done (by have := H1.out; simp; omega)) ((hks ▸ HG.out : Got t.data.toList t.size n).lt H19.out))
            subst hks
            go_wp2_with fail
            go_ret2
            exact ⟨rfl, n, decide (n ≤ most), rfl, HF.out⟩
end Go.Proofs.YtiigbkpfgbhlgaaDoor
