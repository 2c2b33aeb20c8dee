/-
  The plain mathematics of way 1: matches, tokens.
-/
import Derived.Test.YtjijkcmbbccfmaaF22
namespace Go.Proofs.Ytjijkcmbbccfmaa
open Go.RowKit

theorem snF_len (p : List Int) (i j : Nat) : snF p i j ≤ p.length - i := Nat.le_trans (cmF_le p _ i j) (Nat.min_le_right _ _)
/-- What a match may be. -/
def MOk (p : List Int) (i : Nat) (r : Nat × Nat) : Prop := r = (0, 0) ∨ (3 ≤ r.1 ∧ r.1 ≤ 258 ∧ r.1 ≤ p.length - i ∧ 1 ≤ r.2 ∧ r.2 ≤ 32768 ∧ r.2 ≤ i ∧ r.1 = snF p i (i - r.2))
theorem mtF_ok (p : List Int) (i : Nat) : ∀ (c best far : Nat), c ≤ i → MOk p i (best, far) → MOk p i (mtF p i c best far)
  | 0, _, _, _, h => h
  | c + 1, best, far, hc, h => by
    rw [mtF]
    by_cases h3 : i - c ≤ 32768
    · rw [if_pos h3]
      by_cases hb : 3 ≤ snF p i c ∧ best < snF p i c
      · rw [if_pos hb]
        refine mtF_ok p i c _ _ (by omega) (Or.inr ⟨hb.1, snF_le p i c, snF_len p i c, by simp only; omega, h3, by simp only; omega, ?_⟩)
        simp only
        rw [show i - (i - c) = c from by omega]
      · rw [if_neg hb]
        exact mtF_ok p i c best far (by omega) h
    · rw [if_neg h3]
      exact h
theorem mchF_ok (p : List Int) (i : Nat) : MOk p i (mchF p i) := mtF_ok p i i 0 0 (Nat.le_refl _) (Or.inl rfl)

/-- The bits of what stands from a place on. -/
def tkF (p : List Int) : Nat → Nat → List Int
  | 0, _ => []
  | f + 1, i => if i < p.length then (if (mchF p i).1 = 0 then symL (p.getD i 0).toNat ++ tkF p f (i + 1) else lenL ((mchF p i).1 - 3) ++ (distL ((mchF p i).2 - 1) ++ tkF p f (i + (mchF p i).1))) else []
theorem tkF_fuel (p : List Int) : ∀ (f g i : Nat), p.length - i ≤ f → p.length - i ≤ g → tkF p f i = tkF p g i
  | 0, 0, _, _, _ => rfl
  | 0, g + 1, i, h, _ => by rw [tkF, tkF, if_neg (by omega)]
  | f + 1, 0, i, _, h => by rw [tkF, tkF, if_neg (by omega)]
  | f + 1, g + 1, i, h1, h2 => by
    rw [tkF, tkF]
    by_cases hi : i < p.length
    · rw [if_pos hi, if_pos hi]
      by_cases h0 : (mchF p i).1 = 0
      · rw [if_pos h0, if_pos h0, tkF_fuel p f g (i + 1) (by omega) (by omega)]
      · rw [if_neg h0, if_neg h0, tkF_fuel p f g (i + (mchF p i).1) (by omega) (by omega)]
    · rw [if_neg hi, if_neg hi]
def tksL (p : List Int) (i : Nat) : List Int := tkF p p.length i
theorem tksL_end {p : List Int} {i : Nat} (h : p.length ≤ i) : tksL p i = [] := by
  unfold tksL
  cases p.length with
  | zero => rfl
  | succ n => rw [tkF, if_neg (by omega)]
theorem tksL_lit {p : List Int} {i : Nat} (h : i < p.length) (h0 : (mchF p i).1 = 0) : tksL p i = symL (p.getD i 0).toNat ++ tksL p (i + 1) := by
  unfold tksL
  rw [tkF_fuel p p.length (p.length + 1) i (by omega) (by omega), tkF, if_pos h, if_pos h0]
theorem tksL_match {p : List Int} {i : Nat} (h : i < p.length) (h0 : ¬ (mchF p i).1 = 0) : tksL p i = lenL ((mchF p i).1 - 3) ++ (distL ((mchF p i).2 - 1) ++ tksL p (i + (mchF p i).1)) := by
  unfold tksL
  rw [tkF_fuel p p.length (p.length + 1) i (by omega) (by omega), tkF, if_pos h, if_neg h0]
/-- All bits of way 1. -/
def fixL (p : List Int) : List Int := [1] ++ bitsL 1 2 ++ tksL p 0 ++ symL 256
end Go.Proofs.Ytjijkcmbbccfmaa
