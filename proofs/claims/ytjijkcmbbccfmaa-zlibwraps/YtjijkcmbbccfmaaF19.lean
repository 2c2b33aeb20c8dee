/-
  Walks: the document's distance.
-/
import Derived.Test.YtjijkcmbbccfmaaF18
namespace Go.Proofs.Ytjijkcmbbccfmaa
open Go.RowKit

/-- The symbol of a distance, by the distance less 1. -/
def sD (v : Nat) : Nat := if v < 4 then v else 2 * (lenN v - 2) + v / 2 ^ (lenN v - 2)
theorem distB_all : (List.range 30).all (fun s => (List.range 30).all fun t => decide (t ≤ s) || decide ((ddist4 (s : Nat)).1 + 2 ^ (ddist4 (s : Nat)).2 ≤ (ddist4 (t : Nat)).1)) = true := by kernel_rfl
theorem distC_all : (List.range 30).all (fun s => decide (1 ≤ (ddist4 (s : Nat)).1) && decide ((ddist4 (s : Nat)).1 ≤ 32768) && decide ((ddist4 (s : Nat)).2 ≤ 13)) = true := by kernel_rfl
theorem dist_mono {s t : Nat} (h : s < t) (ht : t ≤ 29) : (ddist4 s).1 + 2 ^ (ddist4 s).2 ≤ (ddist4 t).1 := by
  have h1 := List.all_eq_true.1 distB_all s (by simp; omega)
  have h2 := List.all_eq_true.1 h1 t (by simp; omega)
  simp only [Bool.or_eq_true, decide_eq_true_eq] at h2
  rcases h2 with h2 | h2
  · omega
  · exact h2
theorem dist_bounds {s : Nat} (h : s ≤ 29) : 1 ≤ (ddist4 s).1 ∧ (ddist4 s).1 ≤ 32768 ∧ (ddist4 s).2 ≤ 13 := by
  have h1 := List.all_eq_true.1 distC_all s (by simp; omega)
  simp only [Bool.and_eq_true, decide_eq_true_eq] at h1
  exact ⟨h1.1.1, h1.1.2, h1.2⟩
theorem dist_facts {v : Nat} (h : v < 32768) : sD v ≤ 29 ∧ (ddist4 (sD v)).1 ≤ (v : Int) + 1 ∧ (v : Int) + 1 < (ddist4 (sD v)).1 + 2 ^ (ddist4 (sD v)).2 ∧ distL v = codeL (sD v) 5 ++ bitsL ((v : Int) + 1 - (ddist4 (sD v)).1) (ddist4 (sD v)).2 := by
  unfold sD distL
  by_cases h4 : v < 4
  · rw [if_pos h4, if_pos h4]
    have e : ddist4 (v : Int) = ((v : Int) + 1, 0) := by unfold ddist4; rw [if_pos (by omega)]
    rw [e]
    refine ⟨by omega, by simp, by simp; omega, ?_⟩
    simp [bitsL]
  · rw [if_neg h4, if_neg h4]
    have g1 := lenN_lt v
    have g2 := lenN_le (x := v) (by omega)
    have g3 := lenN_small (x := v) (k := 15) (by omega)
    have g4 : 3 ≤ lenN v := by
      rcases Nat.lt_or_ge (lenN v) 3 with g | g
      · have : 2 ^ lenN v ≤ 2 ^ 2 := Nat.pow_le_pow_right (by omega) (by omega)
        omega
      · exact g
    obtain ⟨m, hm⟩ : ∃ m, lenN v = m + 2 := ⟨lenN v - 2, by omega⟩
    rw [hm] at g1 g2 g3 ⊢
    rw [show m + 2 - 2 = m from by omega]
    have hp0 : 0 < (2 : Nat) ^ m := Nat.pow_pos (by omega)
    rw [Nat.pow_add] at g1 g2
    have hq1 : v / 2 ^ m < 4 := by rw [Nat.div_lt_iff_lt_mul hp0, Nat.mul_comm]; exact g1
    have hq2 : 2 ≤ v / 2 ^ m := by rw [Nat.le_div_iff_mul_le hp0]; omega
    have hdm := Nat.div_add_mod v (2 ^ m)
    have hr : v % 2 ^ m < 2 ^ m := Nat.mod_lt _ hp0
    generalize v / 2 ^ m = q at *
    generalize v % 2 ^ m = t at *
    have e : ddist4 ((2 * m + q : Nat) : Int) = (1 + (q : Int) * 2 ^ m, m) := by
      unfold ddist4
      rw [if_neg (by omega), show (((2 * m + q : Nat) : Int) / 2 - 1).toNat = m from by omega, show 2 + ((2 * m + q : Nat) : Int) % 2 = (q : Int) from by omega]
    rw [e]
    have hc : ((2 ^ m * q + t : Nat) : Int) = (q : Int) * 2 ^ m + (t : Int) := by
      rw [Int.natCast_add, Int.natCast_mul, Int.mul_comm]
      simp
    have hrI : (t : Int) < 2 ^ m := by exact_mod_cast hr
    rw [← hdm, hc]
    refine ⟨by omega, by simp only; omega, by simp only; omega, ?_⟩
    congr 2
    simp only
    omega
end Go.Proofs.Ytjijkcmbbccfmaa
