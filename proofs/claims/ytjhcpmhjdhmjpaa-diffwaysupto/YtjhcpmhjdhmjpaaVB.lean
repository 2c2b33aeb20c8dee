/-
  Walks: math.Trunc at whole numbers, isWhole, inPlane.
-/
import Derived.Test.YtjhcpmhjdhmjpaaVA
import Derived.Laws.Externs
namespace Go.Proofs.Ytjhcpmhjdhmjpaa
open Go.RowKit

def tcOk (n : Nat) : Bool := match FloatKind.f64.decode (fl n) with
  | .nan _ _ => false
  | d => FloatKind.f64.encode (d.integral .zero) == fl n
set_option maxRecDepth 100000 in
theorem tc_all : (List.range 1100).all tcOk = true := by kernel_rfl
attribute [local irreducible] FloatKind.decode in
theorem tc_gen (X : Nat) (d : Ieee.Datum) (h : FloatKind.f64.decode X = d) (hn : ∀ s t, d ≠ .nan s t) (s : String) : Extern.MathFloor.toIntegral s .zero #[.float .f64 X] = pure (.float .f64 (FloatKind.f64.encode (d.integral .zero))) := by
  unfold Extern.MathFloor.toIntegral
  conv => lhs; whnf
  rw [h]
  cases d with
  | nan s t => exact absurd rfl (hn s t)
  | _ => rfl
theorem tc_run {n : Nat} (h : n < 1100) (s : String) : Extern.MathFloor.toIntegral s .zero #[.float .f64 (fl n)] = pure (.float .f64 (fl n)) := by
  have := List.all_eq_true.1 tc_all n (List.mem_range.2 h)
  unfold tcOk at this
  split at this
  · cases this
  · rename_i d hd
    rw [tc_gen (fl n) _ rfl hd s, beq_iff_eq.1 this]
theorem run_arch {n : Nat} (h : n < 1100) (w : World) : (callFunc 61 #[.float .f64 (fl n)]).run Try.prog w = .ok (.value (.float .f64 (fl n))) w := by
  rw [run_callFunc_extern Try.func61 (by kernel_rfl) (by kernel_rfl) (by kernel_rfl) (e := Extern.MathFloor.toIntegral "math.archTrunc" .zero) (by kernel_rfl), tc_run h]
  rfl
set_option maxHeartbeats 400000 in
set_option maxRecDepth 100000 in
theorem Trunc_any {n : Nat} (hn : n < 1100) (w : World) : Calls Try.prog 60 #[.float .f64 (fl n)] w fun e w' => e = .returned (.float .f64 (fl n)) ∧ w' = w := by
  have h1 := run_arch hn w
  generalize fl n = X at *
  go_enter Try.func60, Try.ntmps60
  go_wp2
  go_ret
  exact ⟨rfl, rfl⟩
set_option exponentiation.threshold 2000 in
theorem fl_cmp {x y : Nat} (hx : x < 1100) (hy : y < 1100) : FloatKind.f64.format.order (fl x) (fl y) = some (compare x y) := by
  obtain ⟨m, i, h1, h2, h3⟩ := fl_read hx
  obtain ⟨n, j, g1, g2, g3⟩ := fl_read hy
  unfold Ieee.Format.order
  rw [h1, g1]
  simp only [Ieee.Datum.order, Ieee.signed]
  obtain ⟨b, hb⟩ : ∃ b, min i j = b := ⟨_, rfl⟩
  rw [hb]
  have hb1 : b ≤ i := by omega
  have hb2 : b ≤ j := by omega
  have hb0 : -1074 ≤ b := by omega
  rw [shl_mul, shl_mul] at h3 g3
  have e1 : (i + 1074).toNat = (i - b).toNat + (b + 1074).toNat := by omega
  have e2 : (j + 1074).toNat = (j - b).toNat + (b + 1074).toNat := by omega
  rw [e1, Nat.pow_add, ← Nat.mul_assoc] at h3
  rw [e2, Nat.pow_add, ← Nat.mul_assoc] at g3
  have hp : 0 < 2 ^ (b + 1074).toNat := Nat.pow_pos (by decide)
  have hq : 0 < 2 ^ 1074 := Nat.pow_pos (by decide)
  simp only [Bool.false_eq_true, if_false, shl_mul]
  generalize m * 2 ^ (i - b).toNat = A at *
  generalize n * 2 ^ (j - b).toNat = B at *
  generalize 2 ^ (b + 1074).toNat = P at *
  generalize 2 ^ 1074 = Q at *
  congr 1
  rcases Nat.lt_trichotomy x y with hl | he | hg
  · have : A < B := Nat.lt_of_mul_lt_mul_right (a := P) (by rw [h3, g3]; exact Nat.mul_lt_mul_of_pos_right hl hq)
    rw [Nat.compare_eq_lt.2 hl, Int.compare_eq_lt.2 (by omega)]
  · subst he
    have : A = B := Nat.eq_of_mul_eq_mul_right hp (h3.trans g3.symm)
    rw [Nat.compare_eq_eq.2 rfl, Int.compare_eq_eq.2 (by omega)]
  · have : B < A := Nat.lt_of_mul_lt_mul_right (a := P) (by rw [h3, g3]; exact Nat.mul_lt_mul_of_pos_right hg hq)
    rw [Nat.compare_eq_gt.2 hg, Int.compare_eq_gt.2 (by omega)]
end Go.Proofs.Ytjhcpmhjdhmjpaa
