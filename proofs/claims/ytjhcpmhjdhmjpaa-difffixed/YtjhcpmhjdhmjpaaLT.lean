/-
  Bytes that the program's text has.
-/
import Derived.Test.YtjhcpmhjdhmjpaaK
import Derived.Lib.SlBytesConst
namespace Go.Proofs.Ytjhcpmhjdhmjpaa
open Go.RowKit

theorem Rd.litF (k : IntKind) (w : World) (xs : List Int) (t : TypeId) (fr : Nat × Nat) (h : xs.length ≤ 1000) : Rd k (fun g => g = w.heap.size) (w.alloc (.cells (cellsK k xs).toArray t fr)) (.slice (some ⟨w.heap.size, 0, none⟩) xs.length xs.length) xs := by
  refine ⟨some ⟨w.heap.size, 0, none⟩, xs.length, rfl, Nat.le_refl _, by unfold maxLen; omega, (fun h => by cases h), fun _ => ⟨w.heap.size, 0, rfl, by simp, rfl, fun i hi => ?_⟩⟩
  have hh := heap_alloc_new w (.cells (cellsK k xs).toArray t fr)
  simp only [Nat.zero_add, World.cell?, hh]
  simp [cellsK, List.getD, List.getElem?_eq_getElem hi]
theorem conv_const (w : World) (C : Array Value) (n c : Nat) : (convert 42 42 (.slice (some ⟨w.heap.size, 0, none⟩) n c)).run Try.prog (w.alloc (.cells C 5)) = .ok (.slice (some ⟨w.heap.size, 0, none⟩) n c) (w.alloc (.cells C 5 (C.size, C.size + 1))) :=
  Lib.run_convert_bytes_const w _ _ C n c Try.underlying42 Try.underlying5
/-- The bytes of a text that the program has. -/
theorem lit_step (w : World) (xs : List Int) (h : xs.length ≤ 1000) : ∃ wa, (convert 42 42 (.slice (some ⟨w.heap.size, 0, none⟩) xs.length xs.length)).run Try.prog (w.alloc (.cells (cellsK .u8 xs).toArray 5)) = .ok (.slice (some ⟨w.heap.size, 0, none⟩) xs.length xs.length) wa ∧
    Rd .u8 anyB wa (.slice (some ⟨w.heap.size, 0, none⟩) xs.length xs.length) xs ∧ Below w.heap.size w wa :=
  ⟨_, conv_const w _ _ _, (Rd.litF .u8 w xs 5 _ h).any, (Below.refl w.heap.size w).alloc (Nat.le_refl _) _⟩
end Go.Proofs.Ytjhcpmhjdhmjpaa
