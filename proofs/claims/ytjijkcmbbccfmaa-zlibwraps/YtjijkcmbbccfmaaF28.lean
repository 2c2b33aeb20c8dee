/-
  The plain mathematics of the finder: the nearest earlier place with the same three bytes.
-/
import Derived.Test.YtjijkcmbbccfmaaF27
namespace Go.Proofs.Ytjijkcmbbccfmaa
open Go.RowKit

/-- The three bytes at a place. -/
def thL (p : List Int) (i : Nat) : List Int := [p.getD i 0, p.getD (i + 1) 0, p.getD (i + 2) 0]
def Lk (p : List Int) (i c : Nat) : Prop := c + 3 ≤ p.length ∧ thL p c = thL p i
instance (p : List Int) (i c : Nat) : Decidable (Lk p i c) := by unfold Lk; exact inferInstance
/-- One more than the last place below c with the three bytes of i, or 0. -/
def lsF (p : List Int) (i : Nat) : Nat → Nat
  | 0 => 0
  | c + 1 => if Lk p i c then c + 1 else lsF p i c
theorem lsF_le (p : List Int) (i : Nat) : ∀ c, lsF p i c ≤ c
  | 0 => Nat.le_refl _
  | c + 1 => by
    have := lsF_le p i c
    rw [lsF]
    split <;> omega
theorem lsF_lk (p : List Int) (i : Nat) : ∀ {c d : Nat}, lsF p i c = d + 1 → Lk p i d
  | 0, d, h => by simp [lsF] at h
  | c + 1, d, h => by
    rw [lsF] at h
    by_cases hl : Lk p i c
    · rw [if_pos hl] at h
      have : c = d := by omega
      subst this
      exact hl
    · rw [if_neg hl] at h
      exact lsF_lk p i h
theorem lsF_same (p : List Int) {i j : Nat} (h : thL p i = thL p j) : ∀ c, lsF p i c = lsF p j c
  | 0 => rfl
  | c + 1 => by
    have e : Lk p i c = Lk p j c := by unfold Lk; rw [h]
    rw [lsF, lsF, lsF_same p h c]
    simp only [e]
/-- What is alike in three places is like. -/
theorem cmF_three (p : List Int) {F i j : Nat} (h : 3 ≤ cmF p F i j) : thL p j = thL p i := by
  match F with
  | 0 => simp [cmF] at h
  | 1 => have := cmF_le p 1 i j; omega
  | 2 => have := cmF_le p 2 i j; omega
  | F + 3 =>
    rw [cmF] at h
    by_cases h0 : p.getD i 0 = p.getD j 0
    · rw [if_pos h0, cmF] at h
      by_cases h1 : p.getD (i + 1) 0 = p.getD (j + 1) 0
      · rw [if_pos h1, cmF] at h
        by_cases h2 : p.getD (i + 1 + 1) 0 = p.getD (j + 1 + 1) 0
        · unfold thL
          rw [h0, h1, show i + 2 = i + 1 + 1 from rfl, h2]
        · rw [if_neg h2] at h
          omega
      · rw [if_neg h1] at h
        omega
    · rw [if_neg h0] at h
      omega
theorem three_cmF (p : List Int) {F i j : Nat} (hF : 3 ≤ F) (h : thL p j = thL p i) : 3 ≤ cmF p F i j := by
  match F with
  | 0 => omega
  | 1 => omega
  | 2 => omega
  | F + 3 =>
    unfold thL at h
    simp only [List.cons.injEq, and_true] at h
    obtain ⟨h0, h1, h2⟩ := h
    rw [cmF, if_pos h0.symm, cmF, if_pos h1.symm, cmF, if_pos h2.symm]
    omega
theorem cmF_ne (p : List Int) : ∀ {F i j n : Nat}, ¬ p.getD (i + n) 0 = p.getD (j + n) 0 → cmF p F i j ≤ n
  | 0, _, _, _, _ => Nat.zero_le _
  | F + 1, i, j, 0, h => by
    rw [cmF_stop p (i := i) (j := j) h]
    exact Nat.le_refl _
  | F + 1, i, j, n + 1, h => by
    rw [cmF]
    split
    · have := cmF_ne p (F := F) (i := i + 1) (j := j + 1) (n := n) (by rw [show i + 1 + n = i + (n + 1) from by omega, show j + 1 + n = j + (n + 1) from by omega]; exact h)
      omega
    · omega
theorem snF_lk {p : List Int} {i c : Nat} (hc : c < i) (h : 3 ≤ snF p i c) : Lk p i c := by
  have := snF_len p i c
  exact ⟨by omega, cmF_three p h⟩
theorem lk_snF {p : List Int} {i c : Nat} (hi : i + 3 ≤ p.length) (h : Lk p i c) : 3 ≤ snF p i c := three_cmF p (by omega) h.2
/-- Places with other bytes are passed over. -/
theorem mtF_skip (p : List Int) (i : Nat) : ∀ (c best far : Nat), c ≤ i → mtF p i c best far = mtF p i (lsF p i c) best far
  | 0, _, _, _ => rfl
  | c + 1, best, far, hc => by
    by_cases hl : Lk p i c
    · rw [lsF, if_pos hl]
    · rw [lsF, if_neg hl]
      rw [mtF]
      by_cases h3 : i - c ≤ 32768
      · rw [if_pos h3, if_neg (fun h => hl (snF_lk (by omega) h.1))]
        exact mtF_skip p i c best far (by omega)
      · rw [if_neg h3]
        have hle := lsF_le p i c
        cases h4 : lsF p i c with
        | zero => rfl
        | succ d => rw [mtF, if_neg (by omega)]
/-- No match is longer than there is room. -/
theorem mtF_most (p : List Int) (i : Nat) : ∀ (c best far : Nat), min 258 (p.length - i) ≤ best → mtF p i c best far = (best, far)
  | 0, _, _, _ => rfl
  | c + 1, best, far, h => by
    have : snF p i c ≤ min 258 (p.length - i) := cmF_le p _ i c
    rw [mtF]
    split
    · rw [if_neg (by omega)]
      exact mtF_most p i c best far h
    · rfl
theorem mchF_short {p : List Int} {i : Nat} (h : min 258 (p.length - i) < 3) : mchF p i = (0, 0) := by
  have key : ∀ c, mtF p i c 0 0 = (0, 0) := by
    intro c
    induction c with
    | zero => rfl
    | succ c ih =>
      have : snF p i c ≤ min 258 (p.length - i) := cmF_le p _ i c
      rw [mtF]
      split
      · rw [if_neg (by omega)]
        exact ih
      · rfl
  exact key i
theorem mchF_start (p : List Int) (i : Nat) : mtF p i (lsF p i i) 0 0 = mchF p i := (mtF_skip p i i 0 0 (Nat.le_refl _)).symm
/-- A place that is tried. -/
theorem mtF_far {p : List Int} {i d best far : Nat} (h : ¬ i - d ≤ 32768) : mtF p i (d + 1) best far = (best, far) := by rw [mtF, if_neg h]
theorem mtF_better {p : List Int} {i d best far : Nat} (hd : d < i) (h : i - d ≤ 32768) (hi : i + 3 ≤ p.length) (hl : Lk p i d) (hb : best < snF p i d) : mtF p i (d + 1) best far = mtF p i (lsF p d d) (snF p i d) (i - d) := by
  rw [mtF, if_pos h, if_pos ⟨lk_snF hi hl, hb⟩, mtF_skip p i d _ _ (by omega), lsF_same p hl.2.symm]
theorem mtF_worse {p : List Int} {i d best far : Nat} (hd : d < i) (h : i - d ≤ 32768) (hl : Lk p i d) (hb : snF p i d ≤ best) : mtF p i (d + 1) best far = mtF p i (lsF p d d) best far := by
  rw [mtF, if_pos h, if_neg (by omega), mtF_skip p i d _ _ (by omega), lsF_same p hl.2.symm]
theorem snF_ne {p : List Int} {i d best : Nat} (h : ¬ p.getD (d + best) 0 = p.getD (i + best) 0) : snF p i d ≤ best := cmF_ne p (fun e => h e.symm)
end Go.Proofs.Ytjijkcmbbccfmaa
