/-
  Whole numbers up to 1100 as floats: sums, differences, order.
-/
import Derived.Test.YtidpdhnbnecddaaProg
import Derived.Laws.ComplexArith
import Derived.KernelRfl
namespace Go.Proofs.Ytidpdhnbnecddaa

/-- A whole number's bits. -/
def fl (n : Nat) : Nat := floatOfInt .f64 (n : Int)
def one64 : Nat := 4607182418800017408
def flOk (n : Nat) : Bool :=
  (floatBits .add .f64 (fl n) one64 == some (fl (n + 1))) && (floatBits .add .f64 (fl n) 0 == some (fl n)) && (floatToIntVal .f64 (fl n) .i64 == some (n : Int)) &&
  (floatBits .sub .f64 (fl (n + 1)) (fl n) == some one64) && (floatBits .sub .f64 (fl n) (fl n) == some 0) &&
  (match FloatKind.f64.format.read (fl n) with | .number s m i => !s && decide (-1074 ≤ i) && (m <<< (i + 1074).toNat == n <<< 1074) | _ => false)
set_option maxRecDepth 100000 in
theorem fl_all : (List.range 1100).all flOk = true := by kernel_rfl
theorem fl_ok {n : Nat} (h : n < 1100) : flOk n = true := List.all_eq_true.1 fl_all n (List.mem_range.2 h)
theorem fl_zero : fl 0 = 0 := by kernel_rfl
theorem fl_one : fl 1 = one64 := by kernel_rfl
section
variable {n : Nat} (h : n < 1100)
include h
theorem fl_parts : floatBits .add .f64 (fl n) one64 = some (fl (n + 1)) ∧ floatBits .add .f64 (fl n) 0 = some (fl n) ∧ floatToIntVal .f64 (fl n) .i64 = some (n : Int) ∧ floatBits .sub .f64 (fl (n + 1)) (fl n) = some one64 ∧ floatBits .sub .f64 (fl n) (fl n) = some 0 := by
  have := fl_ok h
  unfold flOk at this
  simp only [Bool.and_eq_true, beq_iff_eq] at this
  exact ⟨this.1.1.1.1.1, this.1.1.1.1.2, this.1.1.1.2, this.1.1.2, this.1.2⟩
theorem fl_read : ∃ m i, FloatKind.f64.format.read (fl n) = .number false m i ∧ -1074 ≤ i ∧ m <<< (i + 1074).toNat = n <<< 1074 := by
  have := fl_ok h
  unfold flOk at this
  simp only [Bool.and_eq_true] at this
  have := this.2
  split at this
  · rename_i s m i he
    simp only [Bool.and_eq_true, Bool.not_eq_true', decide_eq_true_eq, beq_iff_eq] at this
    exact ⟨m, i, by rw [he, this.1.1], this.1.2, this.2⟩
  · cases this
end
theorem shl_mul (m k : Nat) : m <<< k = m * 2 ^ k := Nat.shiftLeft_eq m k
theorem fl_order {x y : Nat} (hx : x < 1100) (hy : y < 1100) : (FloatKind.f64.format.order (fl x) (fl y) == some .eq) = decide (x = y) := by
  obtain ⟨m, i, h1, h2, h3⟩ := fl_read hx
  obtain ⟨n, j, g1, g2, g3⟩ := fl_read hy
  unfold Ieee.Format.order
  rw [h1, g1]
  simp only [Ieee.Datum.order, Ieee.signed]
  obtain ⟨b, hb⟩ : ∃ b, min i j = b := ⟨_, rfl⟩
  rw [hb]
  have hb1 : b ≤ i := by omega
  have hb2 : b ≤ j := by omega
  have hb0 : -1074 ≤ b := by omega
  rw [shl_mul, shl_mul] at h3 g3
  have e1 : (i + 1074).toNat = (i - b).toNat + (b + 1074).toNat := by omega
  have e2 : (j + 1074).toNat = (j - b).toNat + (b + 1074).toNat := by omega
  rw [e1, Nat.pow_add, ← Nat.mul_assoc] at h3
  rw [e2, Nat.pow_add, ← Nat.mul_assoc] at g3
  have hp : 0 < 2 ^ (b + 1074).toNat := Nat.pow_pos (by decide)
  simp only [Bool.false_eq_true, if_false, shl_mul]
  have key : (m * 2 ^ (i - b).toNat = n * 2 ^ (j - b).toNat) ↔ x = y := by
    constructor
    · intro h
      rw [h, g3] at h3
      exact (Nat.eq_of_mul_eq_mul_right (Nat.pow_pos (by decide)) h3).symm
    · intro h
      subst h
      exact Nat.eq_of_mul_eq_mul_right hp (h3.trans g3.symm)
  generalize m * 2 ^ (i - b).toNat = A at *
  generalize n * 2 ^ (j - b).toNat = B at *
  by_cases hxy : x = y
  · have := key.2 hxy
    subst this
    rw [decide_eq_true hxy, beq_iff_eq]
    congr 1
    exact Std.compare_self
  · have hne : A ≠ B := fun h => hxy (key.1 h)
    rw [decide_eq_false hxy, beq_eq_false_iff_ne]
    intro h
    injection h with h
    exact hne (by have := (Std.compare_eq_iff_eq).1 h; omega)
end Go.Proofs.Ytidpdhnbnecddaa
