/-
  More of the vocabulary: a block that is laid whole; a store into a slice of the call's own.
-/
import Derived.Test.YthkaohkondkhgaaDoorShB1
namespace Go.Proofs.YthkaohkondkhgaaDoor.Sh
open Go.RowKit

theorem cell_block (w : World) (arr : List Int) (t : TypeId) (i : Nat) (hi : i < arr.length) : (w.alloc (.cells (cellsU8 arr).toArray t)).cell? ⟨w.heap.size, i, none⟩ = some (.int .u8 (arr.getD i 0)) := by
  simp [cellsU8, List.getD, List.getElem?_eq_getElem hi]

/-- A list that is laid in a block of its own. -/
theorem Rd.block (w : World) (arr : List Int) (t : TypeId) (hA : AllB arr) (hn : arr.length ≤ 1000000) : Rd (w.alloc (.cells (cellsU8 arr).toArray t)) (.slice (some ⟨w.heap.size, 0, none⟩) arr.length arr.length) arr := by
  refine ⟨some ⟨w.heap.size, 0, none⟩, arr.length, rfl, Nat.le_refl _, by unfold maxLen; omega, hA, (fun h => by cases h), fun _ => ⟨w.heap.size, 0, rfl, by simp, fun i hi => ?_⟩⟩
  rw [Nat.zero_add]
  exact cell_block w arr t i hi

theorem Own.block (w : World) (arr : List Int) (e : TypeId) (hn : arr.length ≤ 1000000) : Own e (w.alloc (.cells (cellsU8 arr).toArray e)) w.heap.size (.slice (some ⟨w.heap.size, 0, none⟩) arr.length arr.length) arr :=
  ⟨by rw [cellsU8_length, Nat.mul_one], .inr ⟨w.heap.size, arr.length, (cellsU8 arr).toArray, rfl, Nat.le_refl _, heap_alloc_new w _, Nat.le_refl _, by unfold maxLen; omega, by simp [cellsU8], by rw [Nat.mul_one]; exact List.take_of_length_le (by simp [cellsU8])⟩⟩

/-- What a slice of the call's own, that is not empty, looks like. -/
theorem Own.open {e : TypeId} {w : World} {base : Nat} {v : Value} {xs : List Int} (h : Own e w base v xs) (h0 : 0 < xs.length) :
    ∃ g cap, v = .slice (some ⟨g, 0, none⟩) xs.length cap ∧ base ≤ g ∧ g < w.heap.size ∧ xs.length ≤ cap ∧ (∀ i, i < xs.length → w.cell? ⟨g, i, none⟩ = some (.int .u8 (xs.getD i 0))) ∧ ∀ i, w.frozen? ⟨g, i, none⟩ = false := by
  have h' := h
  rcases h with ⟨h1, h2⟩
  rcases h2 with ⟨_, hn⟩ | ⟨g, cap, cur, hv, hg, hh, hnc, hcm, hcs, htake⟩
  · omega
  · refine ⟨g, cap, hv, hg, ?_, hnc, fun i hi => ?_, fun i => by simp [World.frozen?, hh]⟩
    · rcases Nat.lt_or_ge g w.heap.size with h'' | h''
      · exact h''
      · rw [Array.getElem?_eq_none h''] at hh
        cases hh
    · have hk := World.ownsRow.cells h' (g := g) (by rw [hv]; rfl) i (.int .u8 (xs.getD i 0)) (by simp [cellsU8, List.getElem?_eq_getElem hi, List.getD])
      rw [add_plain, Nat.zero_add] at hk
      exact hk

/-- A store into it. -/
theorem Own.set {e : TypeId} {w : World} {base g cap n : Nat} {xs : List Int} (h : Own e w base (.slice (some ⟨g, 0, none⟩) n cap) xs) (i : Nat) (y : Int) : Own e (w.setCell ⟨g, i, none⟩ (.int .u8 y)) base (.slice (some ⟨g, 0, none⟩) n cap) (xs.set i y) := by
  rcases h with ⟨h1, h2⟩
  rcases h2 with ⟨hv, _⟩ | ⟨g', cap', cur, hv, hg, hh, hnc, hcm, hcs, htake⟩
  · cases hv
  · injection hv with e1 e2 e3
    injection e1 with e1
    injection e1 with e4 e5
    subst e2 e3 e4
    have hl : xs.length * 1 = xs.length := Nat.mul_one _
    refine ⟨by rw [cellsU8_length, List.length_set, Nat.mul_one], .inr ⟨g, cap, cur.setIfInBounds i (.int .u8 y), by rw [List.length_set], hg, ?_, by rw [List.length_set]; exact hnc, hcm, by simpa using hcs, ?_⟩⟩
    · simp only [World.setCell, Array.getElem?_modify, hh]
      simp
    · rw [List.length_set]
      simp only [Array.toList_setIfInBounds, List.take_set, htake, cellsU8, List.map_set]
end Go.Proofs.YthkaohkondkhgaaDoor.Sh
