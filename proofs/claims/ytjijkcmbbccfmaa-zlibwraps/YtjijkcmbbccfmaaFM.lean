/-
  The plain mathematics of written streams: bits, matches.
-/
import Derived.WalkKit
namespace Go.Proofs.Ytjijkcmbbccfmaa

/-- The n lowest bits of v, the lowest first. -/
def bitsL (v : Int) : Nat → List Int
  | 0 => []
  | n + 1 => bitsL v n ++ [v / 2 ^ n % 2]
theorem bitsL_length (v : Int) : ∀ n, (bitsL v n).length = n
  | 0 => rfl
  | n + 1 => by simp [bitsL, bitsL_length v n]
/-- The number that bits are. -/
def valL : List Int → Int
  | [] => 0
  | b :: r => b + 2 * valL r
def IsBits (l : List Int) : Prop := ∀ b ∈ l, b = 0 ∨ b = 1
theorem IsBits.nil : IsBits [] := fun _ h => by cases h
theorem IsBits.append {l m : List Int} (h : IsBits l) (k : IsBits m) : IsBits (l ++ m) := fun b hb => by
  rcases List.mem_append.1 hb with h1 | h1
  · exact h b h1
  · exact k b h1
theorem IsBits.take {l : List Int} (h : IsBits l) (n : Nat) : IsBits (l.take n) := fun b hb => h b (List.mem_of_mem_take hb)
theorem IsBits.drop {l : List Int} (h : IsBits l) (n : Nat) : IsBits (l.drop n) := fun b hb => h b (List.mem_of_mem_drop hb)
theorem IsBits.rev {l : List Int} (h : IsBits l) : IsBits l.reverse := fun b hb => h b (List.mem_reverse.1 hb)
theorem isBits_bitsL (v : Int) : ∀ n, IsBits (bitsL v n)
  | 0 => IsBits.nil
  | n + 1 => (isBits_bitsL v n).append (fun b hb => by
    have : b = v / 2 ^ n % 2 := by simpa using hb
    omega)
theorem valL_range : ∀ {l : List Int}, IsBits l → 0 ≤ valL l ∧ valL l < 2 ^ l.length
  | [], _ => by simp [valL]
  | b :: r, h => by
    have h1 := valL_range (l := r) (fun x hx => h x (by simp [hx]))
    have h2 := h b (by simp)
    simp only [valL, List.length_cons, Int.pow_succ]
    omega
theorem valL_append : ∀ (l m : List Int), valL (l ++ m) = valL l + 2 ^ l.length * valL m
  | [], m => by simp [valL]
  | b :: r, m => by
    simp only [List.cons_append, valL, valL_append r m, List.length_cons, Int.pow_succ, Int.mul_add]
    rw [Int.mul_comm (2 ^ r.length) 2, Int.mul_assoc]
    omega
theorem valL_bitsL (v : Int) (h0 : 0 ≤ v) : ∀ n, valL (bitsL v n) = v % 2 ^ n
  | 0 => by simp [bitsL, valL]
  | n + 1 => by
    rw [bitsL, valL_append, valL_bitsL v h0 n, bitsL_length]
    simp only [valL, Int.mul_zero, Int.add_zero]
    have hp : (0 : Int) < 2 ^ n := Int.pow_pos (by omega)
    have e1 := Int.emod_add_mul_ediv v (2 ^ n)
    have e2 : v % 2 ^ (n + 1) = v % 2 ^ n + 2 ^ n * (v / 2 ^ n % 2) := by
      have e3 := Int.emod_add_mul_ediv v (2 ^ (n + 1))
      have e4 := Int.emod_add_mul_ediv (v / 2 ^ n) 2
      have e5 : v / 2 ^ (n + 1) = v / 2 ^ n / 2 := by
        rw [Int.pow_succ, Int.ediv_ediv_of_nonneg (by omega)]
      rw [e5, Int.pow_succ, Int.mul_assoc] at e3
      have e6 : 2 ^ n * (v / 2 ^ n % 2) + 2 ^ n * (2 * (v / 2 ^ n / 2)) = 2 ^ n * (v / 2 ^ n) := by
        rw [← Int.mul_add, e4]
      rw [Int.pow_succ]
      omega
    rw [e2]
/-- Bytes of bits, the last one filled up. -/
def packG : Nat → List Int → List Int
  | 0, _ => []
  | f + 1, l => if l = [] then [] else valL (l.take 8) :: packG f (l.drop 8)
def packF (l : List Int) : List Int := packG l.length l
theorem packG_fuel : ∀ (f g : Nat) (l : List Int), l.length ≤ f → l.length ≤ g → packG f l = packG g l
  | 0, 0, _, _, _ => rfl
  | 0, g + 1, l, h, _ => by
    have : l = [] := List.eq_nil_of_length_eq_zero (by omega)
    subst this
    simp [packG]
  | f + 1, 0, l, _, h => by
    have : l = [] := List.eq_nil_of_length_eq_zero (by omega)
    subst this
    simp [packG]
  | f + 1, g + 1, l, h1, h2 => by
    rw [packG, packG]
    by_cases hp : l = []
    · rw [if_pos hp, if_pos hp]
    · have : 0 < l.length := List.length_pos_iff.2 hp
      rw [if_neg hp, if_neg hp, packG_fuel f g (l.drop 8) (by simp; omega) (by simp; omega)]
theorem packF_cons {l : List Int} (h : 0 < l.length) : packF l = valL (l.take 8) :: packF (l.drop 8) := by
  unfold packF
  obtain ⟨f, hf⟩ : ∃ f, l.length = f + 1 := ⟨l.length - 1, by omega⟩
  have hp : l ≠ [] := List.length_pos_iff.1 h
  rw [show packG l.length l = packG (f + 1) l from by rw [hf], packG, if_neg hp, packG_fuel f (l.drop 8).length _ (by simp; omega) (by simp)]
theorem packF_nil : packF [] = [] := rfl
/-- Whole bytes ahead. -/
theorem packF_append : ∀ (k : Nat) (l m : List Int), l.length = 8 * k → packF (l ++ m) = packF l ++ packF m
  | 0, l, m, h => by
    have : l = [] := List.eq_nil_of_length_eq_zero (by omega)
    subst this
    rfl
  | k + 1, l, m, h => by
    rw [packF_cons (l := l ++ m) (by simp; omega), packF_cons (l := l) (by omega), List.take_append_of_le_length (by omega), List.drop_append_of_le_length (by omega), packF_append k (l.drop 8) m (by simp; omega)]
    rfl
theorem packF_one {l : List Int} (h0 : 0 < l.length) (h8 : l.length ≤ 8) : packF l = [valL l] := by
  rw [packF_cons h0, List.take_of_length_le h8, List.drop_of_length_le h8, packF_nil]
theorem packF_len : ∀ (k : Nat) (l : List Int), l.length ≤ k → (packF l).length = (l.length + 7) / 8
  | 0, l, h => by
    have : l = [] := List.eq_nil_of_length_eq_zero (by omega)
    subst this
    rfl
  | k + 1, l, h => by
    by_cases h0 : 0 < l.length
    · rw [packF_cons h0, List.length_cons, packF_len k (l.drop 8) (by simp; omega), List.length_drop]
      omega
    · have : l = [] := List.eq_nil_of_length_eq_zero (by omega)
      subst this
      rfl
theorem packF_all : ∀ (k : Nat) (l : List Int), l.length ≤ k → IsBits l → ∀ x ∈ packF l, 0 ≤ x ∧ x < 256
  | 0, l, h, _ => by
    have : l = [] := List.eq_nil_of_length_eq_zero (by omega)
    subst this
    intro x hx
    cases hx
  | k + 1, l, h, hb => by
    by_cases h0 : 0 < l.length
    · rw [packF_cons h0]
      intro x hx
      rcases List.mem_cons.1 hx with rfl | hx
      · have h1 := valL_range (hb.take 8)
        have h2 : (2 : Int) ^ (l.take 8).length ≤ 2 ^ 8 := by
          have : (2 : Nat) ^ (l.take 8).length ≤ 2 ^ 8 := Nat.pow_le_pow_right (by omega) (by simp; omega)
          exact_mod_cast this
        omega
      · exact packF_all k (l.drop 8) (by simp; omega) (hb.drop 8) x hx
    · have : l = [] := List.eq_nil_of_length_eq_zero (by omega)
      subst this
      intro x hx
      cases hx
end Go.Proofs.Ytjijkcmbbccfmaa
