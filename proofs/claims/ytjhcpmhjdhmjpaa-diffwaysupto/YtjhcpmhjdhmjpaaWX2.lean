/-
  Walks: bytes of a text, Text of two empty lists, sides.
-/
import Derived.Test.YtjhcpmhjdhmjpaaWX1
import Derived.Test.YtjhcpmhjdhmjpaaVN
import Derived.Lib.ConvBytes
namespace Go.Proofs.Ytjhcpmhjdhmjpaa
open Go.RowKit Go.Shelf

theorem cells_strL (s : ByteArray) : cellsK .u8 (strL s) = Lib.strCells s := by
  unfold cellsK strL Lib.strCells
  rw [List.map_map]
  rfl
theorem bytes_text (w : World) (s : ByteArray) (hs : s.size ≤ 1000000) : ∃ W cap cur fz, (convert 9 42 (.string s)).run Try.prog w = .ok (.slice (some ⟨w.heap.size, 0, none⟩) s.size cap) W ∧
    W.heap[w.heap.size]? = some (.cells cur 5 fz) ∧ cur.size = cap ∧ cap ≤ fz.1 ∧ s.size ≤ cap ∧ cap ≤ maxLen ∧ cur.toList.take s.size = cellsK .u8 (strL s) ∧ Below w.heap.size w W := by
  have hge := grownCap_ge w s.size 0 5
  have hle := grownCap_le_maxLen w s.size 0 5 (by unfold maxLen; omega)
  have hsz : (Lib.bytesCells w 5 s).size = grownCap w s.size 0 5 := by
    unfold Lib.bytesCells
    rw [Array.size_append, Array.size_map, Array.size_replicate]
    show s.size + _ = _
    omega
  refine ⟨Lib.bytesWorld w 5 s, grownCap w s.size 0 5, Lib.bytesCells w 5 s, _, Lib.run_convert_string_bytes w 9 42 5 s Try.underlying9 Try.underlying42 Try.underlying5, Lib.bytesWorld_at_new w 5 s, hsz, by rw [hsz]; exact Nat.le_refl _, hge, hle, ?_, ?_⟩
  · unfold Lib.bytesCells
    rw [Array.toList_append, List.take_append_of_le_length (by rw [Array.length_toList, Array.size_map]; exact Nat.le_refl _)]
    rw [List.take_of_length_le (by rw [Array.length_toList, Array.size_map]; exact Nat.le_refl _), Array.toList_map, cells_strL]
    rfl
  · exact ⟨rfl, rfl, rfl, by rw [Lib.bytesWorld_size]; omega, fun k hk => Lib.bytesWorld_at_old w 5 s k hk⟩
/-- An object and the place of an id, in blocks of the call's own. -/
theorem text_rd (w : World) (s : ByteArray) (hs : s.size ≤ 1000000) : ∃ W v, (convert 9 42 (.string s)).run Try.prog w = .ok v W ∧ Rd .u8 anyB W v (strL s) ∧ Below w.heap.size w W := by
  obtain ⟨W, cap, cur, fz, hrun, hrow, hcs, hfz, hsc, hcm, htk, hB⟩ := bytes_text w s hs
  refine ⟨W, _, hrun, ⟨some ⟨w.heap.size, 0, none⟩, cap, by rw [strL_length], by rw [strL_length]; exact hsc, hcm, (fun h => by cases h), fun _ => ⟨w.heap.size, 0, rfl, ?_, trivial, fun i hi => ?_⟩⟩, hB⟩
  · rcases Nat.lt_or_ge w.heap.size W.heap.size with h | h
    · exact h
    · rw [Array.getElem?_eq_none h] at hrow; cases hrow
  · rw [Nat.zero_add, cell_of_row W w.heap.size i _ _ _ hrow]
    have h1 := congrArg (fun l : List Value => l[i]?) htk
    rw [strL_length] at hi
    rw [List.getElem?_take_of_lt hi, Array.getElem?_toList] at h1
    rw [h1]
    unfold cellsK
    rw [List.getElem?_map, List.getElem?_eq_getElem (by rw [strL_length]; exact hi)]
    simp [List.getD, List.getElem?_eq_getElem (show i < (strL s).length by rw [strL_length]; exact hi)]
end Go.Proofs.Ytjhcpmhjdhmjpaa
