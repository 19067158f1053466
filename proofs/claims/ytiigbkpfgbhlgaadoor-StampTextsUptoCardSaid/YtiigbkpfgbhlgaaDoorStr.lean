/- string(b): the bytes of a slice as a string. -/
import Derived.Test.YtiigbkpfgbhlgaaDoorByW
import Derived.Laws.BytesArg
namespace Go.Proofs.YtiigbkpfgbhlgaaDoor
open Go.RowKit

def strB (l : List UInt8) : ByteArray := ⟨l.toArray⟩
theorem strB_toList (l : List UInt8) : (strB l).data.toList = l := rfl
theorem strB_size (l : List UInt8) : (strB l).size = l.length := by simp [strB, ByteArray.size]

theorem bs_str {w : World} {K cap n : Nat} {A : Option Addr} {l : List UInt8} (h : Bs w K A cap l) (hn : l.length = n) : (convert 57 9 (.slice A n cap)).run Tryd.prog w = .ok (.string (strB l)) w := by
  subst hn
  by_cases hl : l = []
  · subst hl
    rcases A with _ | ad
    · exact run_convert_bytes_nil (P := Tryd.prog) w 57 5 Tryd.underlying57 Tryd.underlying5 0 cap 9 Tryd.underlying9
    · show (convert 57 9 (.slice (some ad) 0 cap)).run Tryd.prog w = _
      rw [run_convert_bytes_string w 57 9 5 _ _ _ Tryd.underlying57 Tryd.underlying5 Tryd.underlying9, run_bytesToString w ad 0 cap [] (by simpa using run_loadCells_list (P := Tryd.prog) w ad [] (fun j v hj => by simp at hj))]
      rfl
  · obtain ⟨ad, rfl, _, hc⟩ := h.at_ (List.length_pos_iff.2 hl)
    have hld : (loadCells ad l.length).run Tryd.prog w = .ok ((l.map fun c => (c.toNat : Int)).map (Value.int .u8)).toArray w := by
      have := run_loadCells_list (P := Tryd.prog) w ad (l.map bv) (fun j v hj => by
        simp only [List.getElem?_map, Option.map_eq_some_iff] at hj
        obtain ⟨c, hc', rfl⟩ := hj
        exact hc j c hc')
      rw [List.length_map] at this
      rw [List.map_map]
      exact this
    rw [run_convert_bytes_string w 57 9 5 _ _ _ Tryd.underlying57 Tryd.underlying5 Tryd.underlying9, run_bytesToString w ad l.length cap _ hld, foldl_push_bytes, List.map_map]
    have e : (l.map ((fun n : Int => UInt8.ofNat n.toNat) ∘ fun c : UInt8 => (c.toNat : Int))) = l := by
      rw [show ((fun n : Int => UInt8.ofNat n.toNat) ∘ fun c : UInt8 => (c.toNat : Int)) = id by funext c; simp, List.map_id]
    rw [e]
    simp [strB, ByteArray.empty, ByteArray.emptyWithCapacity]
    rfl
end Go.Proofs.YtiigbkpfgbhlgaaDoor
