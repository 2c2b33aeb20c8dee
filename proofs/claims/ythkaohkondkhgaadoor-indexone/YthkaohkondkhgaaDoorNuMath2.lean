/-
  The plain mathematics of numbers as bytes.
-/
import Derived.WalkKit
namespace Go.Proofs.YthkaohkondkhgaaDoor.Nu

/-- A size's bytes; k: how many more groups there may be. -/
def sizeF : Nat → Int → List Int
  | 0, x => [x]
  | k + 1, x => if x < 128 then [x] else (x % 128 + 128) :: sizeF k (x / 128)
def sizeL (x : Int) : List Int := sizeF 9 x

theorem sizeF_small (k : Nat) (x : Int) (h : x < 128) : sizeF k x = [x] := by cases k <;> simp [sizeF, h]
theorem sizeF_step (k : Nat) (x : Int) (h : 128 ≤ x) : sizeF (k + 1) x = (x % 128 + 128) :: sizeF k (x / 128) := by
  rw [sizeF, if_neg (by omega)]
theorem sizeF_length (k : Nat) : ∀ x, (sizeF k x).length ≤ k + 1 := by
  induction k with
  | zero => intro x; simp [sizeF]
  | succ k ih =>
    intro x
    have := ih (x / 128)
    rw [sizeF]
    split <;> simp <;> omega
theorem sizeF_bytes (k : Nat) : ∀ x, 0 ≤ x → x < 128 ^ (k + 1) → ∀ y ∈ sizeF k x, 0 ≤ y ∧ y < 256 := by
  induction k with
  | zero => intro x h0 h1 y hy; simp [sizeF] at hy; omega
  | succ k ih =>
    intro x h0 h1 y hy
    by_cases h : x < 128
    · rw [sizeF_small _ _ h] at hy
      simp at hy
      omega
    · rw [sizeF_step _ _ (by omega)] at hy
      rcases List.mem_cons.1 hy with rfl | hy
      · omega
      · refine ih (x / 128) (by omega) ?_ y hy
        rw [Int.pow_succ] at h1
        omega

theorem or128 (u : Int) : bits .or .u8 (u % 256) 128 = u % 128 + 128 := by
  have e : ∀ n : Nat, n < 256 → bits .or .u8 (n : Int) 128 = ((n % 128 + 128 : Nat) : Int) := by
    intro n hn
    rw [show (128 : Int) = ((128 : Nat) : Int) from rfl, u8_or_nat n 128 hn (by omega)]
    have : ∀ m : Fin 256, m.val ||| 128 = m.val % 128 + 128 := by decide +kernel
    exact congrArg _ (this ⟨n, hn⟩)
  have := e (u % 256).toNat (by omega)
  rw [show (((u % 256).toNat : Nat) : Int) = u % 256 from by omega] at this
  rw [this]
  omega

/-- A span's bytes ahead of the last one; k: how many there may be. -/
def spanB : Nat → Int → List Int
  | 0, _ => []
  | k + 1, x => if x < 128 then [] else spanB k (x / 128 - 1) ++ [(x / 128 - 1) % 128 + 128]
def spanL (x : Int) : List Int := spanB 9 x ++ [x % 128]
/-- The least number that has more than k + 1 bytes. -/
def spanLim : Nat → Int
  | 0 => 128
  | k + 1 => 128 * (spanLim k + 1)
theorem spanLim_9 : (18446744073709551616 : Int) < spanLim 9 := by decide +kernel
theorem spanB_small (k : Nat) (x : Int) (h : x < 128) : spanB k x = [] := by cases k <;> simp [spanB, h]
theorem spanB_step (k : Nat) (x : Int) (h : 128 ≤ x) : spanB (k + 1) x = spanB k (x / 128 - 1) ++ [(x / 128 - 1) % 128 + 128] := by
  rw [spanB, if_neg (by omega)]
theorem spanB_length (k : Nat) : ∀ x, (spanB k x).length ≤ k := by
  induction k with
  | zero => intro x; simp [spanB]
  | succ k ih =>
    intro x
    have := ih (x / 128 - 1)
    rw [spanB]
    split <;> simp <;> omega
theorem spanB_bytes (k : Nat) : ∀ x, ∀ y ∈ spanB k x, 0 ≤ y ∧ y < 256 := by
  induction k with
  | zero => intro x y hy; simp [spanB] at hy
  | succ k ih =>
    intro x y hy
    rw [spanB] at hy
    split at hy
    · simp at hy
    · rcases List.mem_append.1 hy with hy | hy
      · exact ih _ y hy
      · simp at hy
        omega
theorem spanL_length (x : Int) : (spanL x).length ≤ 10 := by
  have := spanB_length 9 x
  simp [spanL]
  omega
theorem spanL_bytes (x : Int) : ∀ y ∈ spanL x, 0 ≤ y ∧ y < 256 := by
  intro y hy
  rcases List.mem_append.1 hy with hy | hy
  · exact spanB_bytes 9 x y hy
  · simp at hy
    omega

theorem u64_and127 (x : Int) (h0 : 0 ≤ x) (h1 : x < 18446744073709551616) : bits .and .u64 x 127 = x % 128 := by
  rw [u64_and x 127 h0 h1 (by omega) (by omega)]
  rw [show (127 : Int).toNat = 127 from rfl, nat_mask7]
  omega
theorem or128' (u : Int) (h0 : 0 ≤ u) (h1 : u < 128) : bits .or .u8 u 128 = u + 128 := by
  have := or128 u
  rw [show u % 256 = u from by omega] at this
  rw [this]
  omega

/-- The n lowest bytes, the highest of them first. -/
def bigF : Nat → Int → List Int
  | 0, _ => []
  | j + 1, x => x / 2 ^ (8 * j) % 256 :: bigF j x
theorem bigF_length (n : Nat) (x : Int) : (bigF n x).length = n := by
  induction n with
  | zero => rfl
  | succ n ih => simp [bigF, ih]
theorem bigF_bytes (n : Nat) (x : Int) : ∀ y ∈ bigF n x, 0 ≤ y ∧ y < 256 := by
  induction n with
  | zero => intro y hy; simp [bigF] at hy
  | succ n ih =>
    intro y hy
    rcases List.mem_cons.1 hy with rfl | hy
    · omega
    · exact ih y hy

theorem u64_and15 (x : Int) (h0 : 0 ≤ x) (h1 : x < 18446744073709551616) : bits .and .u64 x 15 = x % 16 := by
  rw [u64_and x 15 h0 h1 (by omega) (by omega)]
  rw [show (15 : Int).toNat = 15 from rfl, nat_mask4]
  omega
theorem or_kind (k r : Int) (hk0 : 0 ≤ k) (hk1 : k ≤ 7) (h0 : 0 ≤ r) (h1 : r < 16) : bits .or .u8 (k * 16) r = k * 16 + r := by
  rw [u8_or (k * 16) r (by omega) (by omega) h0 (by omega), nat_join 4 (k * 16).toNat r.toNat (by omega) (by omega)]
  omega
/-- A head's bytes. -/
def headL (k x : Int) : List Int := if x < 16 then [k * 16 + x % 16] else (k * 16 + x % 16 + 128) :: sizeL (x / 16)
theorem headL_length (k x : Int) : (headL k x).length ≤ 11 := by
  unfold headL
  split
  · simp
  · have := sizeF_length 9 (x / 16)
    simp [sizeL]
    omega
theorem headL_bytes (k x : Int) (hk0 : 0 ≤ k) (hk1 : k ≤ 7) (h0 : 0 ≤ x) (h1 : x < 18446744073709551616) : ∀ y ∈ headL k x, 0 ≤ y ∧ y < 256 := by
  intro y hy
  unfold headL at hy
  split at hy
  · simp at hy
    omega
  · rcases List.mem_cons.1 hy with rfl | hy
    · omega
    · exact sizeF_bytes 9 (x / 16) (by omega) (by omega) y hy


/-- How many bytes there are up to the first one below 128, with it. -/
def endL : List Int → Option Nat
  | [] => none
  | b :: r => if b < 128 then some 1 else (endL r).map (· + 1)
theorem endL_le : ∀ {l : List Int} {m : Nat}, endL l = some m → 1 ≤ m ∧ m ≤ l.length
  | [], m, h => by simp [endL] at h
  | b :: r, m, h => by
    rw [endL] at h
    split at h
    · simp at h
      subst h
      simp
    · cases hr : endL r with
      | none => simp [hr] at h
      | some k =>
        simp [hr] at h
        have := endL_le hr
        simp
        omega
theorem endL_lt (b : Int) (r : List Int) (h : b < 128) : endL (b :: r) = some 1 := by rw [endL, if_pos h]
theorem endL_ge (b : Int) (r : List Int) (h : ¬ b < 128) : endL (b :: r) = (endL r).map (· + 1) := by rw [endL, if_neg h]

theorem drop_cons (xs : List Int) (i : Nat) (h : i < xs.length) : xs.drop i = xs.getD i 0 :: xs.drop (i + 1) := by
  rw [List.drop_eq_getElem_cons h]
  simp [List.getD, List.getElem?_eq_getElem h]

/-- The number that a size's bytes are, without a bound. -/
def sizeV : List Int → Int
  | [] => 0
  | b :: r => b % 128 + 128 * sizeV r
theorem sizeV_nonneg : ∀ l, 0 ≤ sizeV l
  | [] => by simp [sizeV]
  | b :: r => by
    have := sizeV_nonneg r
    simp only [sizeV]
    omega
theorem sizeV_append : ∀ (l m : List Int), sizeV (l ++ m) = sizeV l + 128 ^ l.length * sizeV m
  | [], m => by simp [sizeV]
  | b :: r, m => by
    have := sizeV_append r m
    simp only [List.cons_append, sizeV, this, List.length_cons, Int.pow_succ, Int.mul_add]
    rw [Int.mul_comm (128 ^ r.length) 128, Int.mul_assoc]
    omega
theorem sizeV_lt : ∀ l, sizeV l < 128 ^ l.length
  | [] => by simp [sizeV]
  | b :: r => by
    have := sizeV_lt r
    simp only [sizeV, List.length_cons, Int.pow_succ]
    omega
theorem sizeV_snoc (l : List Int) (b : Int) : sizeV (l ++ [b]) = sizeV l + 128 ^ l.length * (b % 128) := by
  rw [sizeV_append]
  simp [sizeV]

theorem pow128 (i : Nat) : (128 : Int) ^ i = 2 ^ (7 * i) := by
  rw [Int.pow_mul]
  rfl

theorem u64_join (i : Nat) (x y : Int) (hx0 : 0 ≤ x) (hx : x < 2 ^ i) (hy0 : 0 ≤ y) (hs : y * 2 ^ i < 18446744073709551616) (hx1 : x < 18446744073709551616) : bits .or .u64 x (y * 2 ^ i) = x + y * 2 ^ i := by
  have hp : (0 : Int) < 2 ^ i := Int.pow_pos (by omega)
  have hm : 0 ≤ y * 2 ^ i := Int.mul_nonneg hy0 (by omega)
  rw [u64_or x (y * 2 ^ i) hx0 hx1 hm hs, Nat.or_comm]
  have e : (y * 2 ^ i).toNat = y.toNat * 2 ^ i := by
    obtain ⟨n, rfl⟩ := Int.eq_ofNat_of_zero_le hy0
    have : ((n : Int) * 2 ^ i) = ((n * 2 ^ i : Nat) : Int) := by simp
    rw [this, Int.toNat_natCast, Int.toNat_natCast]
  have hxn : x.toNat < 2 ^ i := by
    obtain ⟨n, rfl⟩ := Int.eq_ofNat_of_zero_le hx0
    have : ((2 : Int) ^ i) = ((2 ^ i : Nat) : Int) := by simp
    rw [this] at hx
    rw [Int.toNat_natCast]
    exact Int.ofNat_lt.1 hx
  rw [nat_join i (y * 2 ^ i).toNat x.toNat (by rw [e]; exact Nat.mul_mod_left _ _) hxn]
  omega

/-- A span's value, group by group. -/
def spanR : Int → List Int → Option Int
  | v, [] => some v
  | v, b :: r => if 144115188075855871 ≤ v then none else spanR ((v + 1) * 128 + b % 128) r
theorem spanR_stop (v b : Int) (r : List Int) (h : 144115188075855871 ≤ v) : spanR v (b :: r) = none := by rw [spanR, if_pos h]
theorem spanR_go (v b : Int) (r : List Int) (h : ¬ 144115188075855871 ≤ v) : spanR v (b :: r) = spanR ((v + 1) * 128 + b % 128) r := by rw [spanR, if_neg h]

theorem or_low7 (z r : Int) (hz0 : 0 ≤ z) (hz : z * 128 < 18446744073709551616) (hr0 : 0 ≤ r) (hr : r < 128) : bits .or .u64 (z * 128) r = z * 128 + r := by
  have hh := u64_or (z * 128) r (by omega) hz hr0 (by omega)
  rw [hh, nat_join 7 (z * 128).toNat r.toNat (by omega) (by omega)]
  omega

theorem u8_and7m (y : Int) (h0 : 0 ≤ y) (h1 : y < 256) : bits .and .u8 y 7 = y % 8 := by
  rw [u8_and _ 7 h0 h1 (by omega) (by omega), show (7 : Int).toNat = 7 from rfl, nat_mask3]
  omega
theorem u8_and15m (y : Int) (h0 : 0 ≤ y) (h1 : y < 256) : bits .and .u8 y 15 = y % 16 := by
  rw [u8_and _ 15 h0 h1 (by omega) (by omega), show (15 : Int).toNat = 15 from rfl, nat_mask4]
  omega
theorem or_low4 (z r : Int) (hz0 : 0 ≤ z) (hz : z * 16 < 18446744073709551616) (hr0 : 0 ≤ r) (hr : r < 16) : bits .or .u64 (z * 16) r = z * 16 + r := by
  have hh := u64_or (z * 16) r (by omega) hz hr0 (by omega)
  rw [hh, nat_join 4 (z * 16).toNat r.toNat (by omega) (by omega)]
  omega

theorem pow7_le (k : Nat) (h : k ≤ 8) : (2 : Int) ^ (7 * k) ≤ 72057594037927936 := by
  have : k = 0 ∨ k = 1 ∨ k = 2 ∨ k = 3 ∨ k = 4 ∨ k = 5 ∨ k = 6 ∨ k = 7 ∨ k = 8 := by omega
  rcases this with rfl | rfl | rfl | rfl | rfl | rfl | rfl | rfl | rfl <;> decide
theorem pow7_ge (k : Nat) (h : 10 ≤ k) : (18446744073709551616 : Int) ≤ 2 ^ (7 * k) := by
  obtain ⟨j, rfl⟩ : ∃ j, k = 10 + j := ⟨k - 10, by omega⟩
  have hj : (1 : Int) ≤ 2 ^ (7 * j) := Int.add_one_le_iff.2 (Int.pow_pos (by omega))
  rw [Nat.mul_add, Int.pow_add]
  have h70 : (2 : Int) ^ (7 * 10) = 1180591620717411303424 := by decide +kernel
  rw [h70]
  omega
theorem pow7_9 : (2 : Int) ^ (7 * 9) = 9223372036854775808 := by decide +kernel

/-- A group more: it is joined to what is there. -/
theorem or_group (q z : Int) (k : Nat) (hq0 : 0 ≤ q) (hq : q < 2 ^ (7 * k)) (hq1 : q < 18446744073709551616) (hz0 : 0 ≤ z) (hz : z < 128) (hk : k ≤ 8 ∨ k = 9 ∧ z ≤ 1) :
    bits .or .u64 q (IntKind.u64.wrap (z * 2 ^ (7 * k))) = q + 2 ^ (7 * k) * z ∧ q + 2 ^ (7 * k) * z < 18446744073709551616 := by
  have hp : (0 : Int) < 2 ^ (7 * k) := Int.pow_pos (by omega)
  have hb : 2 ^ (7 * k) * z + 2 ^ (7 * k) ≤ (18446744073709551616 : Int) := by
    rcases hk with hk | ⟨rfl, hz1⟩
    · have h1 := pow7_le k hk
      have h2 : 2 ^ (7 * k) * (z + 1) ≤ 2 ^ (7 * k) * 128 := Int.mul_le_mul_of_nonneg_left (by omega) (by omega)
      rw [Int.mul_add, Int.mul_one] at h2
      omega
    · rw [pow7_9]
      omega
  have hn : 0 ≤ 2 ^ (7 * k) * z := Int.mul_nonneg (by omega) hz0
  have hc : z * 2 ^ (7 * k) = 2 ^ (7 * k) * z := Int.mul_comm _ _
  rw [IntKind.wrap_u64, Int.emod_eq_of_lt (by omega) (by omega), u64_join (7 * k) q z hq0 hq hz0 (by omega) hq1, hc]
  exact ⟨rfl, by omega⟩
/-- A group that has no room. -/
theorem group_big (q z : Int) (k : Nat) (hq0 : 0 ≤ q) (hz0 : 0 < z) (hk : 9 < k ∨ k = 9 ∧ 1 < z) : 18446744073709551616 ≤ q + 2 ^ (7 * k) * z := by
  rcases hk with hk | ⟨rfl, hz1⟩
  · have h1 := pow7_ge k hk
    have h2 : 2 ^ (7 * k) * 1 ≤ 2 ^ (7 * k) * z := Int.mul_le_mul_of_nonneg_left (by omega) (by omega)
    omega
  · rw [pow7_9]
    omega
end Go.Proofs.YthkaohkondkhgaaDoor.Nu
