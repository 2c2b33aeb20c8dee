/-
  The plain mathematics of reading numbers from bytes.
-/
import Derived.WalkKit
namespace Go.Proofs.YthkaohkondkhgaaDoor.Nu

/-- How many bytes there are up to the first one below 128, with it. -/
def endL : List Int → Option Nat
  | [] => none
  | b :: r => if b < 128 then some 1 else (endL r).map (· + 1)
theorem endL_le : ∀ {l : List Int} {m : Nat}, endL l = some m → 1 ≤ m ∧ m ≤ l.length
  | [], m, h => by simp [endL] at h
  | b :: r, m, h => by
    rw [endL] at h
    split at h
    · simp at h
      subst h
      simp
    · cases hr : endL r with
      | none => simp [hr] at h
      | some k =>
        simp [hr] at h
        have := endL_le hr
        simp
        omega
theorem endL_lt (b : Int) (r : List Int) (h : b < 128) : endL (b :: r) = some 1 := by rw [endL, if_pos h]
theorem endL_ge (b : Int) (r : List Int) (h : ¬ b < 128) : endL (b :: r) = (endL r).map (· + 1) := by rw [endL, if_neg h]

theorem drop_cons (xs : List Int) (i : Nat) (h : i < xs.length) : xs.drop i = xs.getD i 0 :: xs.drop (i + 1) := by
  rw [List.drop_eq_getElem_cons h]
  simp [List.getD, List.getElem?_eq_getElem h]

/-- The number that a size's bytes are, without a bound. -/
def sizeV : List Int → Int
  | [] => 0
  | b :: r => b % 128 + 128 * sizeV r
theorem sizeV_nonneg : ∀ l, 0 ≤ sizeV l
  | [] => by simp [sizeV]
  | b :: r => by
    have := sizeV_nonneg r
    simp only [sizeV]
    omega
theorem sizeV_append : ∀ (l m : List Int), sizeV (l ++ m) = sizeV l + 128 ^ l.length * sizeV m
  | [], m => by simp [sizeV]
  | b :: r, m => by
    have := sizeV_append r m
    simp only [List.cons_append, sizeV, this, List.length_cons, Int.pow_succ, Int.mul_add]
    rw [Int.mul_comm (128 ^ r.length) 128, Int.mul_assoc]
    omega
theorem sizeV_lt : ∀ l, sizeV l < 128 ^ l.length
  | [] => by simp [sizeV]
  | b :: r => by
    have := sizeV_lt r
    simp only [sizeV, List.length_cons, Int.pow_succ]
    omega
theorem sizeV_snoc (l : List Int) (b : Int) : sizeV (l ++ [b]) = sizeV l + 128 ^ l.length * (b % 128) := by
  rw [sizeV_append]
  simp [sizeV]

theorem pow128 (i : Nat) : (128 : Int) ^ i = 2 ^ (7 * i) := by
  rw [Int.pow_mul]
  rfl

theorem u64_join (i : Nat) (x y : Int) (hx0 : 0 ≤ x) (hx : x < 2 ^ i) (hy0 : 0 ≤ y) (hs : y * 2 ^ i < 18446744073709551616) (hx1 : x < 18446744073709551616) : bits .or .u64 x (y * 2 ^ i) = x + y * 2 ^ i := by
  have hp : (0 : Int) < 2 ^ i := Int.pow_pos (by omega)
  have hm : 0 ≤ y * 2 ^ i := Int.mul_nonneg hy0 (by omega)
  rw [u64_or x (y * 2 ^ i) hx0 hx1 hm hs, Nat.or_comm]
  have e : (y * 2 ^ i).toNat = y.toNat * 2 ^ i := by
    obtain ⟨n, rfl⟩ := Int.eq_ofNat_of_zero_le hy0
    have : ((n : Int) * 2 ^ i) = ((n * 2 ^ i : Nat) : Int) := by simp
    rw [this, Int.toNat_natCast, Int.toNat_natCast]
  have hxn : x.toNat < 2 ^ i := by
    obtain ⟨n, rfl⟩ := Int.eq_ofNat_of_zero_le hx0
    have : ((2 : Int) ^ i) = ((2 ^ i : Nat) : Int) := by simp
    rw [this] at hx
    rw [Int.toNat_natCast]
    exact Int.ofNat_lt.1 hx
  rw [nat_join i (y * 2 ^ i).toNat x.toNat (by rw [e]; exact Nat.mul_mod_left _ _) hxn]
  omega

/-- A span's value, group by group. -/
def spanR : Int → List Int → Option Int
  | v, [] => some v
  | v, b :: r => if 144115188075855871 ≤ v then none else spanR ((v + 1) * 128 + b % 128) r
theorem spanR_stop (v b : Int) (r : List Int) (h : 144115188075855871 ≤ v) : spanR v (b :: r) = none := by rw [spanR, if_pos h]
theorem spanR_go (v b : Int) (r : List Int) (h : ¬ 144115188075855871 ≤ v) : spanR v (b :: r) = spanR ((v + 1) * 128 + b % 128) r := by rw [spanR, if_neg h]

theorem or_low7 (z r : Int) (hz0 : 0 ≤ z) (hz : z * 128 < 18446744073709551616) (hr0 : 0 ≤ r) (hr : r < 128) : bits .or .u64 (z * 128) r = z * 128 + r := by
  have hh := u64_or (z * 128) r (by omega) hz hr0 (by omega)
  rw [hh, nat_join 7 (z * 128).toNat r.toNat (by omega) (by omega)]
  omega

theorem u8_and7m (y : Int) (h0 : 0 ≤ y) (h1 : y < 256) : bits .and .u8 y 7 = y % 8 := by
  rw [u8_and _ 7 h0 h1 (by omega) (by omega), show (7 : Int).toNat = 7 from rfl, nat_mask3]
  omega
theorem u8_and15m (y : Int) (h0 : 0 ≤ y) (h1 : y < 256) : bits .and .u8 y 15 = y % 16 := by
  rw [u8_and _ 15 h0 h1 (by omega) (by omega), show (15 : Int).toNat = 15 from rfl, nat_mask4]
  omega
theorem or_low4 (z r : Int) (hz0 : 0 ≤ z) (hz : z * 16 < 18446744073709551616) (hr0 : 0 ≤ r) (hr : r < 16) : bits .or .u64 (z * 16) r = z * 16 + r := by
  have hh := u64_or (z * 16) r (by omega) hz hr0 (by omega)
  rw [hh, nat_join 4 (z * 16).toNat r.toNat (by omega) (by omega)]
  omega

theorem pow7_le (k : Nat) (h : k ≤ 8) : (2 : Int) ^ (7 * k) ≤ 72057594037927936 := by
  have : k = 0 ∨ k = 1 ∨ k = 2 ∨ k = 3 ∨ k = 4 ∨ k = 5 ∨ k = 6 ∨ k = 7 ∨ k = 8 := by omega
  rcases this with rfl | rfl | rfl | rfl | rfl | rfl | rfl | rfl | rfl <;> decide
theorem pow7_ge (k : Nat) (h : 10 ≤ k) : (18446744073709551616 : Int) ≤ 2 ^ (7 * k) := by
  obtain ⟨j, rfl⟩ : ∃ j, k = 10 + j := ⟨k - 10, by omega⟩
  have hj : (1 : Int) ≤ 2 ^ (7 * j) := Int.add_one_le_iff.2 (Int.pow_pos (by omega))
  rw [Nat.mul_add, Int.pow_add]
  have h70 : (2 : Int) ^ (7 * 10) = 1180591620717411303424 := by decide +kernel
  rw [h70]
  omega
theorem pow7_9 : (2 : Int) ^ (7 * 9) = 9223372036854775808 := by decide +kernel

/-- A group more: it is joined to what is there. -/
theorem or_group (q z : Int) (k : Nat) (hq0 : 0 ≤ q) (hq : q < 2 ^ (7 * k)) (hq1 : q < 18446744073709551616) (hz0 : 0 ≤ z) (hz : z < 128) (hk : k ≤ 8 ∨ k = 9 ∧ z ≤ 1) :
    bits .or .u64 q (IntKind.u64.wrap (z * 2 ^ (7 * k))) = q + 2 ^ (7 * k) * z ∧ q + 2 ^ (7 * k) * z < 18446744073709551616 := by
  have hp : (0 : Int) < 2 ^ (7 * k) := Int.pow_pos (by omega)
  have hb : 2 ^ (7 * k) * z + 2 ^ (7 * k) ≤ (18446744073709551616 : Int) := by
    rcases hk with hk | ⟨rfl, hz1⟩
    · have h1 := pow7_le k hk
      have h2 : 2 ^ (7 * k) * (z + 1) ≤ 2 ^ (7 * k) * 128 := Int.mul_le_mul_of_nonneg_left (by omega) (by omega)
      rw [Int.mul_add, Int.mul_one] at h2
      omega
    · rw [pow7_9]
      omega
  have hn : 0 ≤ 2 ^ (7 * k) * z := Int.mul_nonneg (by omega) hz0
  have hc : z * 2 ^ (7 * k) = 2 ^ (7 * k) * z := Int.mul_comm _ _
  rw [IntKind.wrap_u64, Int.emod_eq_of_lt (by omega) (by omega), u64_join (7 * k) q z hq0 hq hz0 (by omega) hq1, hc]
  exact ⟨rfl, by omega⟩
/-- A group that has no room. -/
theorem group_big (q z : Int) (k : Nat) (hq0 : 0 ≤ q) (hz0 : 0 < z) (hk : 9 < k ∨ k = 9 ∧ 1 < z) : 18446744073709551616 ≤ q + 2 ^ (7 * k) * z := by
  rcases hk with hk | ⟨rfl, hz1⟩
  · have h1 := pow7_ge k hk
    have h2 : 2 ^ (7 * k) * 1 ≤ 2 ^ (7 * k) * z := Int.mul_le_mul_of_nonneg_left (by omega) (by omega)
    omega
  · rw [pow7_9]
    omega
end Go.Proofs.YthkaohkondkhgaaDoor.Nu
