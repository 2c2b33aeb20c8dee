/-
  What is put is read: the plain mathematics of sizes.
-/
import Derived.Test.YtkidoknklgoffaaNuW12
namespace Go.Proofs.Ytkidoknklgoffaa.Nu

def SpanForm : List Int → Prop
  | [] => False
  | [b] => 0 ≤ b ∧ b < 128
  | b :: c :: r => 128 ≤ b ∧ b < 256 ∧ SpanForm (c :: r)
theorem endL_of : ∀ (l r : List Int), SpanForm l → endL (l ++ r) = some l.length
  | [], _, h => by cases h
  | [b], r, h => by
    simp only [SpanForm] at h
    exact endL_lt b r h.2
  | b :: c :: l, r, h => by
    simp only [SpanForm] at h
    have ih := endL_of (c :: l) r h.2.2
    rw [List.cons_append, endL_ge _ _ (by omega), ih]
    rfl

theorem sizeF_form : ∀ (k : Nat) (x : Int), 0 ≤ x → x < 128 ^ (k + 1) → SpanForm (sizeF k x) ∧ sizeV (sizeF k x) = x
  | 0, x, h0, h1 => by
    simp at h1
    simp [sizeF, SpanForm, sizeV]
    omega
  | k + 1, x, h0, h1 => by
    by_cases h : x < 128
    · rw [sizeF_small _ _ h]
      simp [SpanForm, sizeV]
      omega
    · rw [sizeF_step _ _ (by omega)]
      rw [Int.pow_succ] at h1
      obtain ⟨i1, i2⟩ := sizeF_form k (x / 128) (by omega) (by omega)
      constructor
      · cases hq : sizeF k (x / 128) with
        | nil => rw [hq] at i1; cases i1
        | cons c q =>
          rw [hq] at i1
          exact ⟨by omega, by omega, i1⟩
      · simp only [sizeV, i2]
        omega
theorem sizeL_form (x : Int) (h0 : 0 ≤ x) (h1 : x < 18446744073709551616) : SpanForm (sizeL x) ∧ sizeV (sizeL x) = x := sizeF_form 9 x h0 (by omega)

theorem endS_there (xs l ys : List Int) (h : SpanForm l) : endS (xs ++ (l ++ ys)) (xs.length : Int) = ((xs.length : Int) + l.length, 0) := by
  unfold endS
  rw [if_neg (by omega), Int.toNat_natCast, List.drop_left, endL_of l ys h]

theorem sizeS_there (xs ys : List Int) (x : Int) (h0 : 0 ≤ x) (h1 : x < 18446744073709551616) : sizeS (xs ++ (sizeL x ++ ys)) (xs.length : Int) = (x, (xs.length : Int) + (sizeL x).length, 0) := by
  obtain ⟨hf, hv⟩ := sizeL_form x h0 h1
  have he := endS_there xs (sizeL x) ys hf
  rw [sizeS_some (m := (sizeL x).length) (by rw [he]) (by rw [he]), List.drop_left, List.take_left, hv, if_pos h1]
end Go.Proofs.Ytkidoknklgoffaa.Nu
