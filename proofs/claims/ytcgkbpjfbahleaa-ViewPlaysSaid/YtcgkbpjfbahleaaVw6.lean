/- The document's Has, Right, SameList, Same; the law's From. -/
import Derived.Test.YtcgkbpjfbahleaaVw5
namespace Go.Proofs.Ytcgkbpjfbahleaa
open Go.RowKit Go.BigFrame

set_option maxHeartbeats 800000 in
theorem rhas_any (K : Nat) (A : Option Addr) (n cap : Nat) (l : List Int) (v : Int) (w : World) (hn : l.length = n) (hp : Sr encI 1 w K A cap l) :
    Calls Try.prog 21 #[.slice A n cap, .int .i64 v] w fun e w' => e = .returned (.bool (hasB l v)) ∧ w = w' := by
  subst hn
  have hle := hp.le
  have hmax := hp.max
  unfold maxLen at hmax
  have HP := Lib.hid hp
  clear hp
  go_enter Try.func21, Try.ntmps21
  go_wp2
  go_loop [5] (fun iv => ∃ (k : Nat), k ≤ l.length ∧ iv = .int .i64 k ∧ Hid (v ∉ l.take k)) (fun i => l.length - (intOf i).toNat)
  case atStart => exact ⟨0, Nat.zero_le _, rfl, Lib.hid (by simp)⟩
  case round =>
    obtain ⟨k, hk, rfl, HR⟩ := hrel
    by_cases hlt : k < l.length
    · obtain ⟨ad, rfl, hadK, hc⟩ := HP.out.int hlt
      have HS := Lib.hid (take_snocI l k hlt)
      have HM : Hid (l[k] ∈ l) := Lib.hid (List.getElem_mem hlt)
      generalize l[k] = x at *
      by_cases c1 : x = v
      · subst c1
        have HZ : Hid (hasB l x = true) := Lib.hid (by unfold hasB; simp [HM.out])
        go_wp2
        go_ret
        exact ⟨by rw [HZ.out]; rfl, rfl⟩
      · have d1 : (x == v) = false := by simpa using c1
        have HZ : Hid (v ∉ l.take (k + 1)) := Lib.hid (by rw [HS.out]; simp only [List.mem_append, List.mem_singleton, not_or]; exact ⟨HR.out, fun e => c1 e.symm⟩)
        clear c1
        go_wp2
        go_round
        case rel => exact ⟨k + 1, by omega, by go_num, Lib.hid HZ.out⟩
        case measure => simp [intOf]; omega
    · have hkl : k = l.length := by omega
      subst hkl
      have HZ : Hid (hasB l v = false) := Lib.hid (by
        have := HR.out
        rw [List.take_length] at this
        unfold hasB; simp [this])
      go_wp2
      go_ret
      exact ⟨by rw [HZ.out]; rfl, rfl⟩
end Go.Proofs.Ytcgkbpjfbahleaa
