/-
  What is put is read, and the other way round: the plain mathematics.
-/
import Derived.Test.YtpleamahaogfiabMath
import Derived.Test.YtpleamahaogfiabMath2
namespace Go.Proofs.Ytpleamahaogfiab

theorem spanB_fuel : ∀ (k j : Nat) (v : Int), v < spanLim k → v < spanLim j → spanB k v = spanB j v
  | 0, j, v, h, _ => by
    simp only [spanLim] at h
    rw [spanB_small 0 v h, spanB_small j v h]
  | k + 1, 0, v, _, h => by
    simp only [spanLim] at h
    rw [spanB_small _ v h, spanB_small 0 v h]
  | k + 1, j + 1, v, h1, h2 => by
    by_cases h : v < 128
    · rw [spanB_small _ v h, spanB_small _ v h]
    · simp only [spanLim] at h1 h2
      rw [spanB_step _ v (by omega), spanB_step _ v (by omega), spanB_fuel k j (v / 128 - 1) (by omega) (by omega)]

/-- The bytes of one span: below 128 the last one alone. -/
def SpanForm : List Int → Prop
  | [] => False
  | [b] => 0 ≤ b ∧ b < 128
  | b :: c :: r => 128 ≤ b ∧ b < 256 ∧ SpanForm (c :: r)

theorem spanR_back : ∀ (r l : List Int) (u V : Int) (k : Nat), SpanForm r → 0 ≤ u → u < spanLim k → spanB k u ++ [u % 128 + 128] = l → spanR u r = some V → ∃ j, 0 ≤ V ∧ V < spanLim j ∧ V < 18446744073709551616 ∧ spanB j V ++ [V % 128] = l ++ r
  | [], _, _, _, _, h, _, _, _, _ => by cases h
  | [b], l, u, V, k, hf, hu0, huk, hl, hV => by
    simp only [SpanForm] at hf
    rw [spanR] at hV
    split at hV
    · cases hV
    · simp only [spanR, Option.some.injEq] at hV
      subst hV
      refine ⟨k + 1, by omega, by simp only [spanLim]; omega, by omega, ?_⟩
      rw [spanB_step _ _ (by omega), show ((u + 1) * 128 + b % 128) / 128 - 1 = u from by omega, hl, show ((u + 1) * 128 + b % 128) % 128 = b from by omega]
  | b :: c :: r, l, u, V, k, hf, hu0, huk, hl, hV => by
    simp only [SpanForm] at hf
    rw [spanR] at hV
    split at hV
    · cases hV
    · obtain ⟨j, h1, h2, h3, h4⟩ := spanR_back (c :: r) (l ++ [b]) ((u + 1) * 128 + b % 128) V (k + 1) hf.2.2 (by omega) (by simp only [spanLim]; omega) (by
        rw [spanB_step _ _ (by omega), show ((u + 1) * 128 + b % 128) / 128 - 1 = u from by omega, hl, show ((u + 1) * 128 + b % 128) % 128 + 128 = b from by omega]) hV
      exact ⟨j, h1, h2, h3, by rw [h4]; simp⟩

theorem spanL_of {j : Nat} {V : Int} {l : List Int} (h1 : V < spanLim j) (h2 : V < 18446744073709551616) (h : spanB j V ++ [V % 128] = l) : spanL V = l := by
  have := spanLim_9
  rw [spanL, spanB_fuel 9 j V (by omega) h1, h]

/-- What is read as a span is written just so. -/
theorem span_once (b : Int) (r : List Int) (V : Int) (hf : SpanForm (b :: r)) (hV : spanR (b % 128) r = some V) : 0 ≤ V ∧ V < 18446744073709551616 ∧ spanL V = b :: r := by
  cases r with
  | nil =>
    simp only [SpanForm] at hf
    simp only [spanR, Option.some.injEq] at hV
    subst hV
    refine ⟨by omega, by omega, ?_⟩
    rw [spanL, spanB_small _ _ (by omega), List.nil_append, show b % 128 % 128 = b from by omega]
  | cons c r =>
    simp only [SpanForm] at hf
    obtain ⟨j, h1, h2, h3, h4⟩ := spanR_back (c :: r) [b] (b % 128) V 0 hf.2.2 (by omega) (by simp only [spanLim]; omega) (by rw [spanB_small _ _ (by omega), List.nil_append, show b % 128 % 128 + 128 = b from by omega]) hV
    exact ⟨h1, h3, spanL_of h2 h3 (by rw [h4]; rfl)⟩

theorem endL_form : ∀ (l : List Int) (m : Nat), (∀ x ∈ l, 0 ≤ x ∧ x < 256) → endL l = some m → SpanForm (l.take m)
  | [], m, _, h => by simp [endL] at h
  | b :: r, m, hb, h => by
    have hb0 := hb b (by simp)
    by_cases h128 : b < 128
    · rw [endL_lt _ _ h128] at h
      simp at h
      subst h
      simp [SpanForm]
      omega
    · rw [endL_ge _ _ h128] at h
      cases hr : endL r with
      | none => simp [hr] at h
      | some k =>
        simp [hr] at h
        subst h
        have ih := endL_form r k (fun x hx => hb x (by simp [hx])) hr
        have hk := endL_le hr
        rw [List.take_succ_cons]
        cases hq : r.take k with
        | nil => rw [hq] at ih; cases ih
        | cons c q =>
          rw [hq] at ih
          exact ⟨by omega, by omega, ih⟩
end Go.Proofs.Ytpleamahaogfiab
