/-
  Bits of small numbers.
-/
import Derived.Test.YtjhcpmhjdhmjpaaV11
namespace Go.Proofs.Ytjhcpmhjdhmjpaa
open Go.RowKit

theorem sh_all : (List.range 11).all (fun n => (wrap64 ((2 : Int) ^ n) == ((2 ^ n : Nat) : Int))) = true := by kernel_rfl
theorem sh_ok (n : Nat) (h : n < 11) : wrap64 ((2 : Int) ^ n) = ((2 ^ n : Nat) : Int) := by
  have := List.all_eq_true.1 sh_all n (List.mem_range.2 h)
  simpa using this
theorem pow_le (n : Nat) (h : n < 11) : 2 ^ n ≤ 1024 := Nat.pow_le_pow_right (by decide) (show n ≤ 10 by omega)
theorem and_all : (List.range 1025).all (fun x => (bits .and .i64 (x : Int) 1 == ((x % 2 : Nat) : Int))) = true := by kernel_rfl
theorem and_one {x : Nat} (h : x < 1025) : bits .and .i64 (x : Int) 1 = ((x % 2 : Nat) : Int) := by
  have := List.all_eq_true.1 and_all x (List.mem_range.2 h)
  simpa using this
theorem div_cast (p i : Nat) : (p : Int) / (2 : Int) ^ i = ((p / 2 ^ i : Nat) : Int) := by
  rw [Int.natCast_ediv]
  rfl
theorem bit_set {p i : Nat} (h : p < 1025) : (bits .and .i64 ((p : Int) / (2 : Int) ^ i) 1 == 0) = decide (p / 2 ^ i % 2 = 0) := by
  rw [div_cast, and_one (Nat.lt_of_le_of_lt (Nat.div_le_self _ _) h)]
  rw [Bool.eq_iff_iff, beq_iff_eq, decide_eq_true_iff]
  omega
end Go.Proofs.Ytjhcpmhjdhmjpaa
