/- slices.SortFunc of labels by their names. -/
import Derived.Test.YtpkadghdnlkfiaaLbSM
import Derived.Test.YtpkadghdnlkfiaaShS
namespace Go.Proofs.Ytpkadghdnlkfiaa
open Go.RowKit

theorem mkCmp_any (x y : Pp) (W : World) : Calls Try.prog 35 #[.agg #[.string x.1, .string x.2], .agg #[.string y.1, .string y.2]] W fun e w' => e = .returned (.int .i64 (cfP x y)) ∧ ∃ q os', w' = Sort.grow (W.drewN q) os' := by
  have hcon := fun W' => scmp_any x.1 y.1 W'
  change ∀ W', Calls _ _ _ W' (fun e w' => e = .returned (.int .i64 (cfP x y)) ∧ W' = w') at hcon
  generalize cfP x y = r at hcon ⊢
  go_enter Try.func35, Try.ntmps35
  go_wp2_with (go_at_call 36; refine (hcon _).mono ?_; rintro e w' ⟨rfl, rfl⟩)
  go_ret
  exact ⟨rfl, 0, _, by rw [Sort.alloc_eq_grow, Sort.alloc_eq_grow, Sort.grow_grow]; rfl⟩

theorem permIn_list {d d' : Array Pp} (h : Sort.PermIn 0 d.size d d') : d'.toList.Perm d.toList := by
  have h3 := h.2.2
  have e1 : d.extract 0 d.size = d := by simp
  have e2 : d'.extract 0 d.size = d' := by rw [← h.1]; simp
  rwa [e1, e2] at h3

theorem sort_some (K g n cap : Nat) (l : List Pp) (w : World) (h : La w K (.slice (some ⟨g, 0, none⟩) n cap) l) (hl : l.length ≤ 140737488355328) :
    Calls Try.prog 34 #[.slice (some ⟨g, 0, none⟩) n cap, .func (.func 35) #[] #[]] w fun e w' =>
      e = .returned (.tuple #[]) ∧ ∃ m, m.Perm l ∧ Srt m ∧ La w' K (.slice (some ⟨g, 0, none⟩) n cap) m ∧ Below K w w' := by
  have hn := So.len h
  subst hn
  have hgt := So.lt h g rfl
  have eg : ∀ args w, (callFunc 35 args).run Try.prog w = .ok (.enter 35 args) w := enters_of Try.func35 (by kernel_rfl) rfl
  have hcmp : CmpLays Try.prog 35 #[] encP 2 cfP g 0 l.toArray.size w := fun _ _ _ _ x y => mkCmp_any x y _
  have hcon := AnyQ.slices_SortFunc sh_sortP 2 Try.isAgg49 Try.sizeOf49 encP encP_len encP_one cfP swoP 35 #[] g 0 cap l.toArray w eg hcmp (So.holdsK encP_len (by decide) h) hgt.2 (by simp; omega)
  have e : l.toArray.size = l.length := by simp
  rw [e] at hcon
  refine hcon.mono ?_
  rintro e' w' ⟨rfl, d', m, os, hp, hs, rfl⟩
  have hp' : Sort.PermIn 0 l.toArray.size l.toArray d' := by rw [e]; exact hp
  have hd : d'.size = l.length := by rw [hp'.1, e]
  have hs' : Sort.SortedIn (ltOf cfP) 0 d'.size d' := by rw [hd]; exact hs
  obtain ⟨h1, h2⟩ := So.sorted encP_len (by decide) h d' hd m os
  exact ⟨rfl, d'.toList, permIn_list hp', srt_of_in hs', h1, h2 K hgt.1⟩
end Go.Proofs.Ytpkadghdnlkfiaa
