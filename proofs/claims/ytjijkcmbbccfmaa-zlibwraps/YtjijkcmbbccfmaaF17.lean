/-
  Walks: the document's length.
-/
import Derived.Test.YtjijkcmbbccfmaaF16
namespace Go.Proofs.Ytjijkcmbbccfmaa
open Go.RowKit

/-- The symbol of a length, by the length less 3. -/
def sF (v : Nat) : Nat := if v = 255 then 285 else if v < 8 then 257 + v else 257 + 4 * (lenN v - 3) + v / 2 ^ (lenN v - 3)
def condB (v s : Nat) : Bool := decide ((dlen4 s).1 ≤ (v : Int) + 3) && (decide (s = 285) || decide ((v : Int) + 3 < (dlen4 s).1 + 2 ^ (dlen4 s).2))
def lenB (v : Nat) : Bool := decide (257 ≤ sF v) && decide (sF v ≤ 285) && condB v (sF v) && (lenL v == symL (sF v) ++ bitsL ((v : Int) + 3 - (dlen4 (sF v)).1) (dlen4 (sF v)).2) && (List.range 29).all fun d => decide (257 + d ≤ sF v) || !(condB v (257 + d))
set_option maxRecDepth 100000 in
theorem lenB_all : (List.range 256).all lenB = true := by kernel_rfl
theorem boundB_all : (List.range 29).all (fun d => decide (3 ≤ (dlen4 ((257 + d : Nat) : Int)).1) && decide ((dlen4 ((257 + d : Nat) : Int)).1 ≤ 258) && decide ((dlen4 ((257 + d : Nat) : Int)).2 ≤ 5)) = true := by kernel_rfl
theorem len_facts {v : Nat} (h : v ≤ 255) : 257 ≤ sF v ∧ sF v ≤ 285 ∧ condB v (sF v) = true ∧ lenL v = symL (sF v) ++ bitsL ((v : Int) + 3 - (dlen4 (sF v)).1) (dlen4 (sF v)).2 ∧ ∀ s, sF v < s → s ≤ 285 → condB v s = false := by
  have h1 := List.all_eq_true.1 lenB_all v (by simp; omega)
  simp only [lenB, Bool.and_eq_true, decide_eq_true_eq, beq_iff_eq, List.all_eq_true, List.mem_range, Bool.or_eq_true, Bool.not_eq_true'] at h1
  obtain ⟨⟨⟨⟨h2, h3⟩, h4⟩, h5⟩, h6⟩ := h1
  refine ⟨h2, h3, h4, h5, fun s hs1 hs2 => ?_⟩
  have h7 := h6 (s - 257) (by omega)
  rw [show 257 + (s - 257) = s from by omega] at h7
  rcases h7 with h7 | h7
  · omega
  · exact h7
theorem len_bounds {s : Nat} (h0 : 257 ≤ s) (h1 : s ≤ 285) : 3 ≤ (dlen4 s).1 ∧ (dlen4 s).1 ≤ 258 ∧ (dlen4 s).2 ≤ 5 := by
  have h2 := List.all_eq_true.1 boundB_all (s - 257) (by simp; omega)
  rw [show 257 + (s - 257) = s from by omega] at h2
  simp only [Bool.and_eq_true, decide_eq_true_eq] at h2
  exact ⟨h2.1.1, h2.1.2, h2.2⟩
end Go.Proofs.Ytjijkcmbbccfmaa
