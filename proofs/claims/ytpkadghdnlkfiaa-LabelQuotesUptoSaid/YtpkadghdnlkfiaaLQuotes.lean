/- The law LabelQuotes: its walk. -/
import Derived.Test.YtpkadghdnlkfiaaLbA
import Derived.Test.YtpkadghdnlkfiaaLbUr
namespace Go.Proofs.Ytpkadghdnlkfiaa
open Go.RowKit

set_option maxRecDepth 100000 in
set_option maxHeartbeats 3200000 in
theorem quotes_any (s t : ByteArray) (w : World) (hs : s.size ≤ 1048576) (ht : t.size ≤ 1048576) :
    Calls Try.prog 5 #[.string s, .string t] w fun e w' => e = .returned (.bool true) ∧ Below w.heap.size w w' := by
  have HQ := Lib.hid (fun W => quote_any s W (by omega))
  have HRQ := Lib.hid (fun W => rQuote_any s W (by omega))
  have HU := Lib.hid (fun W => unquote_any t W (by omega))
  have HRU := Lib.hid (fun W => rUnquote_any t W (by omega))
  have hql := quoteB_len s
  have hqs : (⟨(quoteB s).toArray⟩ : ByteArray).size = (quoteB s).length := by simp [ByteArray.size]
  have hadd := str_add ⟨(quoteB s).toArray⟩ t (by omega)
  have hback := unq_back s t
  have HB := Lib.hid (fun W => unquote_any (⟨(quoteB s).toArray⟩ ++ t) W (by rw [ByteArray.size_append]; omega))
  rw [hback] at HB
  generalize unqB t = R at *
  rw [← hqs] at HB
  clear hback hqs hql
  generalize (⟨(quoteB s).toArray⟩ : ByteArray) = Q at *
  generalize Q ++ t = QT at *
  go_enter Try.func5, Try.ntmps5
  go_wp2_with fail
  refine (HQ.out _).mono ?_
  rintro e w1 ⟨rfl, hb1⟩
  go_wp2_with fail
  refine (HU.out _).mono ?_
  rintro e w2 ⟨rfl, hb2⟩
  have B2 := hb1.trans (hb2.mono hb1.size)
  have z2 := B2.size
  clear hb1 hb2
  go_wp2_with fail
  refine (HRU.out _).mono ?_
  rintro e w3 ⟨rfl, hb3⟩
  have B3 := B2.trans (hb3.mono z2)
  have z3 := B3.size
  clear hb3 B2
  go_wp2_with fail
  refine (HB.out _).mono ?_
  rintro e w4 ⟨rfl, hb4⟩
  have B4 := B3.trans (hb4.mono z3)
  have z4 := B4.size
  clear hb4 B3
  go_wp2_with fail
  refine (awake_any _).mono ?_
  rintro e w5 ⟨rfl, hb5⟩
  have B5 := B4.trans (hb5.mono z4)
  have z5 := B5.size
  clear hb5 B4
  go_wp2_with fail
  refine (HRQ.out _).mono ?_
  rintro e w6 ⟨rfl, hb6⟩
  have B6 := B5.trans (hb6.mono z5)
  clear hb6 B5
  go_wp2_with fail
  go_ret
  exact ⟨ret_bool (by simp), B6⟩
end Go.Proofs.Ytpkadghdnlkfiaa
