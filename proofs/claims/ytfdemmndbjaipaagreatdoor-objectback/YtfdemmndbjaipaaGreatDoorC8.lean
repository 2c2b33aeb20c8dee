/-
  The document's commit. (By tools/gen_c7.py.)
-/
import Derived.Test.YtfdemmndbjaipaaGreatDoorC2
import Derived.Test.YtfdemmndbjaipaaGreatDoorL8
import Derived.Test.YtfdemmndbjaipaaGreatDoorC4
import Derived.Test.YtfdemmndbjaipaaGreatDoorN21
import Derived.Test.YtfdemmndbjaipaaGreatDoorShH2
namespace Go.Proofs.YtfdemmndbjaipaaGreatDoor
open Go.RowKit

theorem hz_hasC (s : ByteArray) : hzF s = hasF s 0 := (Lib.contains_iff_indexByte _ _).symm
theorem commit_least (c : CmC) : [if decide ((16 : Int) < (c.ps.length : Int)) = true then 2 else 0, msF c.ms, if (!idF c.ia || !idF c.ic) = true then 3 else 0].foldl lsF 0 = ceF c := by
  unfold ceF msF
  rw [hz_hasC]
  have e1 : (idF c.ia = false ∨ idF c.ic = false) ↔ (!idF c.ia || !idF c.ic) = true := by simp
  have e2 : decide ((16 : Int) < (c.ps.length : Int)) = decide (16 < c.ps.length) := by rw [decide_eq_decide]; omega
  rw [e2]
  by_cases h2 : 16 < c.ps.length
  · simp only [decide_eq_true h2, if_pos (show 16 < c.ps.length ∨ 65536 < c.ms.size from .inl h2)]
    by_cases h3 : 65536 < c.ms.size
    · simp only [if_pos h3]
      generalize (!idF c.ia || !idF c.ic) = p2
      revert p2
      decide
    · simp only [if_neg h3]
      generalize (!idF c.ia || !idF c.ic) = p2
      generalize hasF c.ms 0 = p3
      revert p2 p3
      decide
  · simp only [decide_eq_false h2]
    by_cases h3 : 65536 < c.ms.size
    · simp only [if_pos h3, if_pos (show 16 < c.ps.length ∨ 65536 < c.ms.size from .inr h3)]
      generalize (!idF c.ia || !idF c.ic) = p2
      revert p2
      decide
    · simp only [if_neg h3, if_neg (show ¬ (16 < c.ps.length ∨ 65536 < c.ms.size) by omega), e1]
      generalize (!idF c.ia || !idF c.ic) = p2
      generalize hasF c.ms 0 = p3
      revert p2 p3
      decide
theorem strL_catC (a b : ByteArray) : strL (a ++ b) = strL a ++ strL b := by
  unfold strL
  rw [ByteArray.data_append, Array.toList_append, List.map_append]
/-- A text's bytes, read. -/
theorem text_rdC (w : World) (s : ByteArray) (hs : s.size ≤ 1000000) : ∃ W v, (convert 9 33 (.string s)).run Tryz.prog w = .ok v W ∧ Rd .u8 anyB W v (strL s) ∧ Below w.heap.size w W := by
  obtain ⟨W, cap, cur, fz, hrun, hrow, hcs, hfz, hsc, hcm, htk, hB⟩ := bytes_text w s hs
  refine ⟨W, _, hrun, ⟨some ⟨w.heap.size, 0, none⟩, cap, by rw [strL_length], by rw [strL_length]; exact hsc, hcm, (fun h => by cases h), fun _ => ⟨w.heap.size, 0, rfl, ?_, trivial, fun i hi => ?_⟩⟩, hB⟩
  · rcases Nat.lt_or_ge w.heap.size W.heap.size with h | h
    · exact h
    · rw [Array.getElem?_eq_none h] at hrow; cases hrow
  · rw [Nat.zero_add, cell_of_row W w.heap.size i _ _ _ hrow]
    have h1 := congrArg (fun l : List Value => l[i]?) htk
    rw [strL_length] at hi
    rw [List.getElem?_take_of_lt hi, Array.getElem?_toList] at h1
    rw [h1]
    unfold cellsK
    rw [List.getElem?_map, List.getElem?_eq_getElem (by rw [strL_length]; exact hi)]
    simp [List.getD, List.getElem?_eq_getElem (show i < (strL s).length by rw [strL_length]; exact hi)]
def hdC (c : CmC) : List Int := [116, 114, 101, 101] ++ [32] ++ Sh.hexF c.tg ++ [10]
end Go.Proofs.YtfdemmndbjaipaaGreatDoor
