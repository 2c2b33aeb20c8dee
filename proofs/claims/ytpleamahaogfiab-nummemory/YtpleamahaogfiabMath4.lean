/-
  What is put is read: the plain mathematics.
-/
import Derived.Test.YtpleamahaogfiabMath3
namespace Go.Proofs.Ytpleamahaogfiab

theorem endL_of : ∀ (l r : List Int), SpanForm l → endL (l ++ r) = some l.length
  | [], _, h => by cases h
  | [b], r, h => by
    simp only [SpanForm] at h
    exact endL_lt b r h.2
  | b :: c :: l, r, h => by
    simp only [SpanForm] at h
    have ih := endL_of (c :: l) r h.2.2
    rw [List.cons_append, endL_ge _ _ (by omega), ih]
    rfl

theorem sizeF_form : ∀ (k : Nat) (x : Int), 0 ≤ x → x < 128 ^ (k + 1) → SpanForm (sizeF k x) ∧ sizeV (sizeF k x) = x
  | 0, x, h0, h1 => by
    simp at h1
    simp [sizeF, SpanForm, sizeV]
    omega
  | k + 1, x, h0, h1 => by
    by_cases h : x < 128
    · rw [sizeF_small _ _ h]
      simp [SpanForm, sizeV]
      omega
    · rw [sizeF_step _ _ (by omega)]
      rw [Int.pow_succ] at h1
      obtain ⟨i1, i2⟩ := sizeF_form k (x / 128) (by omega) (by omega)
      constructor
      · cases hq : sizeF k (x / 128) with
        | nil => rw [hq] at i1; cases i1
        | cons c q =>
          rw [hq] at i1
          exact ⟨by omega, by omega, i1⟩
      · simp only [sizeV, i2]
        omega
theorem sizeL_form (x : Int) (h0 : 0 ≤ x) (h1 : x < 18446744073709551616) : SpanForm (sizeL x) ∧ sizeV (sizeL x) = x := sizeF_form 9 x h0 (by omega)

theorem form_snoc : ∀ (l : List Int) (b : Int), (∀ x ∈ l, 128 ≤ x ∧ x < 256) → 0 ≤ b → b < 128 → SpanForm (l ++ [b])
  | [], b, _, h0, h1 => ⟨h0, h1⟩
  | [a], b, h, h0, h1 => ⟨(h a (by simp)).1, (h a (by simp)).2, h0, h1⟩
  | a :: c :: l, b, h, h0, h1 => by
    have ih := form_snoc (c :: l) b (fun x hx => h x (by simp only [List.mem_cons] at hx ⊢; exact Or.inr hx)) h0 h1
    exact ⟨(h a (by simp)).1, (h a (by simp)).2, ih⟩
theorem spanB_high (k : Nat) : ∀ x, ∀ y ∈ spanB k x, 128 ≤ y ∧ y < 256 := by
  induction k with
  | zero => intro x y hy; simp [spanB] at hy
  | succ k ih =>
    intro x y hy
    rw [spanB] at hy
    split at hy
    · simp at hy
    · rcases List.mem_append.1 hy with hy | hy
      · exact ih _ y hy
      · simp at hy
        omega
theorem spanL_form (x : Int) : SpanForm (spanL x) := form_snoc _ _ (spanB_high 9 x) (by omega) (by omega)

theorem spanR_append : ∀ (r s : List Int) (u : Int), spanR u (r ++ s) = (spanR u r).bind (fun v => spanR v s)
  | [], s, u => by simp [spanR]
  | b :: r, s, u => by
    rw [List.cons_append, spanR, spanR]
    split
    · rfl
    · exact spanR_append r s _

theorem spanR_there : ∀ (k : Nat) (x c : Int), (c = 0 ∨ c = 128) → 0 ≤ x → x < spanLim k → x < 18446744073709551616 → ∃ b r, spanB k x ++ [x % 128 + c] = b :: r ∧ spanR (b % 128) r = some x
  | 0, x, c, hc, h0, h1, _ => by
    simp only [spanLim] at h1
    refine ⟨x % 128 + c, [], by rw [spanB_small _ _ h1]; rfl, ?_⟩
    simp only [spanR, Option.some.injEq]
    omega
  | k + 1, x, c, hc, h0, h1, h2 => by
    by_cases h : x < 128
    · refine ⟨x % 128 + c, [], by rw [spanB_small _ _ h]; rfl, ?_⟩
      simp only [spanR, Option.some.injEq]
      omega
    · simp only [spanLim] at h1
      obtain ⟨b, r, e1, e2⟩ := spanR_there k (x / 128 - 1) 128 (Or.inr rfl) (by omega) (by omega) (by omega)
      refine ⟨b, r ++ [x % 128 + c], by rw [spanB_step _ _ (by omega), e1]; rfl, ?_⟩
      rw [spanR_append, e2]
      simp only [Option.bind_some, spanR]
      rw [if_neg (by omega)]
      simp only [Option.some.injEq]
      omega

theorem span_there (x : Int) (h0 : 0 ≤ x) (h1 : x < 18446744073709551616) : ∃ b r, spanL x = b :: r ∧ spanR (b % 128) r = some x := by
  have := spanLim_9
  obtain ⟨b, r, e1, e2⟩ := spanR_there 9 x 0 (Or.inl rfl) h0 (by omega) h1
  exact ⟨b, r, by rw [← e1, spanL, Int.add_zero], e2⟩

theorem headL_form (k x : Int) (hk0 : 0 ≤ k) (hk1 : k ≤ 7) (h0 : 0 ≤ x) (h1 : x < 18446744073709551616) : SpanForm (headL k x) ∧ ∃ b r, headL k x = b :: r ∧ b / 16 % 8 = k ∧ sizeV r * 16 + b % 16 = x ∧ sizeV r < 1152921504606846976 := by
  unfold headL
  split
  · refine ⟨⟨by omega, by omega⟩, _, [], rfl, by omega, ?_, by simp [sizeV]⟩
    simp only [sizeV]
    omega
  · obtain ⟨i1, i2⟩ := sizeL_form (x / 16) (by omega) (by omega)
    refine ⟨?_, _, _, rfl, by omega, by rw [i2]; omega, by rw [i2]; omega⟩
    cases hq : sizeL (x / 16) with
    | nil => rw [hq] at i1; cases i1
    | cons c q =>
      rw [hq] at i1
      exact ⟨by omega, by omega, i1⟩
end Go.Proofs.Ytpleamahaogfiab
