/-
  The plain mathematics of numbers as bytes.
-/
import Derived.WalkKit
namespace Go.Proofs.YthkaohkondkhgaaDoor.Nu

/-- A size's bytes; k: how many more groups there may be. -/
def sizeF : Nat → Int → List Int
  | 0, x => [x]
  | k + 1, x => if x < 128 then [x] else (x % 128 + 128) :: sizeF k (x / 128)
def sizeL (x : Int) : List Int := sizeF 9 x

theorem sizeF_small (k : Nat) (x : Int) (h : x < 128) : sizeF k x = [x] := by cases k <;> simp [sizeF, h]
theorem sizeF_step (k : Nat) (x : Int) (h : 128 ≤ x) : sizeF (k + 1) x = (x % 128 + 128) :: sizeF k (x / 128) := by
  rw [sizeF, if_neg (by omega)]
theorem sizeF_length (k : Nat) : ∀ x, (sizeF k x).length ≤ k + 1 := by
  induction k with
  | zero => intro x; simp [sizeF]
  | succ k ih =>
    intro x
    have := ih (x / 128)
    rw [sizeF]
    split <;> simp <;> omega
theorem sizeF_bytes (k : Nat) : ∀ x, 0 ≤ x → x < 128 ^ (k + 1) → ∀ y ∈ sizeF k x, 0 ≤ y ∧ y < 256 := by
  induction k with
  | zero => intro x h0 h1 y hy; simp [sizeF] at hy; omega
  | succ k ih =>
    intro x h0 h1 y hy
    by_cases h : x < 128
    · rw [sizeF_small _ _ h] at hy
      simp at hy
      omega
    · rw [sizeF_step _ _ (by omega)] at hy
      rcases List.mem_cons.1 hy with rfl | hy
      · omega
      · refine ih (x / 128) (by omega) ?_ y hy
        rw [Int.pow_succ] at h1
        omega

theorem or128 (u : Int) : bits .or .u8 (u % 256) 128 = u % 128 + 128 := by
  have e : ∀ n : Nat, n < 256 → bits .or .u8 (n : Int) 128 = ((n % 128 + 128 : Nat) : Int) := by
    intro n hn
    rw [show (128 : Int) = ((128 : Nat) : Int) from rfl, u8_or_nat n 128 hn (by omega)]
    have : ∀ m : Fin 256, m.val ||| 128 = m.val % 128 + 128 := by decide +kernel
    exact congrArg _ (this ⟨n, hn⟩)
  have := e (u % 256).toNat (by omega)
  rw [show (((u % 256).toNat : Nat) : Int) = u % 256 from by omega] at this
  rw [this]
  omega

/-- A span's bytes ahead of the last one; k: how many there may be. -/
def spanB : Nat → Int → List Int
  | 0, _ => []
  | k + 1, x => if x < 128 then [] else spanB k (x / 128 - 1) ++ [(x / 128 - 1) % 128 + 128]
def spanL (x : Int) : List Int := spanB 9 x ++ [x % 128]
/-- The least number that has more than k + 1 bytes. -/
def spanLim : Nat → Int
  | 0 => 128
  | k + 1 => 128 * (spanLim k + 1)
theorem spanLim_9 : (18446744073709551616 : Int) < spanLim 9 := by decide +kernel
theorem spanB_small (k : Nat) (x : Int) (h : x < 128) : spanB k x = [] := by cases k <;> simp [spanB, h]
theorem spanB_step (k : Nat) (x : Int) (h : 128 ≤ x) : spanB (k + 1) x = spanB k (x / 128 - 1) ++ [(x / 128 - 1) % 128 + 128] := by
  rw [spanB, if_neg (by omega)]
theorem spanB_length (k : Nat) : ∀ x, (spanB k x).length ≤ k := by
  induction k with
  | zero => intro x; simp [spanB]
  | succ k ih =>
    intro x
    have := ih (x / 128 - 1)
    rw [spanB]
    split <;> simp <;> omega
theorem spanB_bytes (k : Nat) : ∀ x, ∀ y ∈ spanB k x, 0 ≤ y ∧ y < 256 := by
  induction k with
  | zero => intro x y hy; simp [spanB] at hy
  | succ k ih =>
    intro x y hy
    rw [spanB] at hy
    split at hy
    · simp at hy
    · rcases List.mem_append.1 hy with hy | hy
      · exact ih _ y hy
      · simp at hy
        omega
theorem spanL_length (x : Int) : (spanL x).length ≤ 10 := by
  have := spanB_length 9 x
  simp [spanL]
  omega
theorem spanL_bytes (x : Int) : ∀ y ∈ spanL x, 0 ≤ y ∧ y < 256 := by
  intro y hy
  rcases List.mem_append.1 hy with hy | hy
  · exact spanB_bytes 9 x y hy
  · simp at hy
    omega

theorem u64_and127 (x : Int) (h0 : 0 ≤ x) (h1 : x < 18446744073709551616) : bits .and .u64 x 127 = x % 128 := by
  rw [u64_and x 127 h0 h1 (by omega) (by omega)]
  rw [show (127 : Int).toNat = 127 from rfl, nat_mask7]
  omega
theorem or128' (u : Int) (h0 : 0 ≤ u) (h1 : u < 128) : bits .or .u8 u 128 = u + 128 := by
  have := or128 u
  rw [show u % 256 = u from by omega] at this
  rw [this]
  omega

/-- The n lowest bytes, the highest of them first. -/
def bigF : Nat → Int → List Int
  | 0, _ => []
  | j + 1, x => x / 2 ^ (8 * j) % 256 :: bigF j x
theorem bigF_length (n : Nat) (x : Int) : (bigF n x).length = n := by
  induction n with
  | zero => rfl
  | succ n ih => simp [bigF, ih]
theorem bigF_bytes (n : Nat) (x : Int) : ∀ y ∈ bigF n x, 0 ≤ y ∧ y < 256 := by
  induction n with
  | zero => intro y hy; simp [bigF] at hy
  | succ n ih =>
    intro y hy
    rcases List.mem_cons.1 hy with rfl | hy
    · omega
    · exact ih y hy

theorem u64_and15 (x : Int) (h0 : 0 ≤ x) (h1 : x < 18446744073709551616) : bits .and .u64 x 15 = x % 16 := by
  rw [u64_and x 15 h0 h1 (by omega) (by omega)]
  rw [show (15 : Int).toNat = 15 from rfl, nat_mask4]
  omega
theorem or_kind (k r : Int) (hk0 : 0 ≤ k) (hk1 : k ≤ 7) (h0 : 0 ≤ r) (h1 : r < 16) : bits .or .u8 (k * 16) r = k * 16 + r := by
  rw [u8_or (k * 16) r (by omega) (by omega) h0 (by omega), nat_join 4 (k * 16).toNat r.toNat (by omega) (by omega)]
  omega
/-- A head's bytes. -/
def headL (k x : Int) : List Int := if x < 16 then [k * 16 + x % 16] else (k * 16 + x % 16 + 128) :: sizeL (x / 16)
theorem headL_length (k x : Int) : (headL k x).length ≤ 11 := by
  unfold headL
  split
  · simp
  · have := sizeF_length 9 (x / 16)
    simp [sizeL]
    omega
theorem headL_bytes (k x : Int) (hk0 : 0 ≤ k) (hk1 : k ≤ 7) (h0 : 0 ≤ x) (h1 : x < 18446744073709551616) : ∀ y ∈ headL k x, 0 ≤ y ∧ y < 256 := by
  intro y hy
  unfold headL at hy
  split at hy
  · simp at hy
    omega
  · rcases List.mem_cons.1 hy with rfl | hy
    · omega
    · exact sizeF_bytes 9 (x / 16) (by omega) (by omega) y hy
end Go.Proofs.YthkaohkondkhgaaDoor.Nu
