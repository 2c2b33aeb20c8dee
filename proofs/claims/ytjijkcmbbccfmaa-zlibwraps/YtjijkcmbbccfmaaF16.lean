/-
  The document's Length, Distance.
-/
import Derived.Test.YtjijkcmbbccfmaaF15
namespace Go.Proofs.Ytjijkcmbbccfmaa
open Go.RowKit

theorem pow2_le4 {a b : Nat} (h : a ≤ b) : (2 : Int) ^ a ≤ 2 ^ b := by
  have : (2 : Nat) ^ a ≤ 2 ^ b := Nat.pow_le_pow_right (by omega) h
  exact_mod_cast this
/-- Of a symbol the least length, and how many bits more. -/
def dlen4 (s : Int) : Int × Nat :=
  if s = 285 then (258, 0) else if s < 265 then (s - 254, 0) else (3 + (4 + (s - 261) % 4) * 2 ^ ((s - 261) / 4).toNat, ((s - 261) / 4).toNat)
/-- Of a symbol the least distance, and how many bits more. -/
def ddist4 (s : Int) : Int × Nat :=
  if s < 4 then (s + 1, 0) else (1 + (2 + s % 2) * 2 ^ (s / 2 - 1).toNat, (s / 2 - 1).toNat)

set_option maxHeartbeats 1000000 in
set_option maxRecDepth 100000 in
theorem dLength4_any (w : World) (s : Int) (hs0 : 257 ≤ s) (hs1 : s ≤ 285) :
    Calls Try.prog 45 #[.int .i64 s] w fun e w' => e = .returned (.tuple #[.int .i64 (dlen4 s).1, .int .i64 (dlen4 s).2]) ∧ w' = w := by
  by_cases h1 : s = 285
  · subst h1
    have KE : Kept (dlen4 285 = (258, 0)) := ⟨rfl⟩
    go_enter Try.func45, Try.ntmps45
    go_wp2
    go_ret2
    rw [KE.out]
    exact ⟨rfl, rfl⟩
  · by_cases h2 : s < 265
    · have KE : Kept (dlen4 s = (s - 254, 0)) := ⟨by unfold dlen4; rw [if_neg h1, if_pos h2]⟩
      have hb : (s == 285) = false := by simp only [beq_eq_false_iff_ne]; exact h1
      go_enter Try.func45, Try.ntmps45
      go_wp2
      go_ret2
      rw [KE.out]
      exact ⟨rfl, rfl⟩
    · obtain ⟨k, hk⟩ : ∃ k : Nat, (s - 261) / 4 = (k : Int) := ⟨((s - 261) / 4).toNat, by omega⟩
      have KE : Kept (dlen4 s = (3 + (4 + (s - 261) % 4) * 2 ^ k, k)) := ⟨by unfold dlen4; rw [if_neg h1, if_neg h2, hk, Int.toNat_natCast]⟩
      have hb : (s == 285) = false := by simp only [beq_eq_false_iff_ne]; exact h1
      have hk5 : k ≤ 5 := by omega
      have hr : 0 ≤ (s - 261) % 4 ∧ (s - 261) % 4 < 4 := by omega
      have hd3 : (s - 261).tdiv 4 = (k : Int) := by rw [Int.tdiv_eq_ediv_of_nonneg (by omega)]; exact hk
      have hd4 : (s - 261).tmod 4 = (s - 261) % 4 := Int.tmod_eq_emod_of_nonneg (by omega)
      have hp : (2 : Int) ^ k ≤ 32 := pow2_le4 (b := 5) hk5
      have hp0 : (0 : Int) < 2 ^ k := Int.pow_pos (by omega)
      have hx : (4 + (s - 261) % 4) * 2 ^ k ≤ 8 * 32 := Int.mul_le_mul (by omega) hp (by omega) (by omega)
      have hx0 : 0 ≤ (4 + (s - 261) % 4) * 2 ^ k := Int.mul_nonneg (by omega) (by omega)
      go_enter Try.func45, Try.ntmps45
      go_wp2
      go_ret2
      rw [KE.out]
      exact ⟨rfl, rfl⟩

set_option maxHeartbeats 1000000 in
set_option maxRecDepth 100000 in
theorem dDistance4_any (w : World) (s : Int) (hs0 : 0 ≤ s) (hs1 : s ≤ 29) :
    Calls Try.prog 46 #[.int .i64 s] w fun e w' => e = .returned (.tuple #[.int .i64 (ddist4 s).1, .int .i64 (ddist4 s).2]) ∧ w' = w := by
  by_cases h2 : s < 4
  · have KE : Kept (ddist4 s = (s + 1, 0)) := ⟨by unfold ddist4; rw [if_pos h2]⟩
    go_enter Try.func46, Try.ntmps46
    go_wp2
    go_ret2
    rw [KE.out]
    exact ⟨rfl, rfl⟩
  · obtain ⟨k, hk⟩ : ∃ k : Nat, s / 2 - 1 = (k : Int) := ⟨(s / 2 - 1).toNat, by omega⟩
    have KE : Kept (ddist4 s = (1 + (2 + s % 2) * 2 ^ k, k)) := ⟨by unfold ddist4; rw [if_neg h2, hk, Int.toNat_natCast]⟩
    have hk5 : k ≤ 13 := by omega
    have hr : 0 ≤ s % 2 ∧ s % 2 < 2 := by omega
    have hd3 : s.tdiv 2 = s / 2 := Int.tdiv_eq_ediv_of_nonneg (by omega)
    have hd4 : s.tmod 2 = s % 2 := Int.tmod_eq_emod_of_nonneg (by omega)
    have hp : (2 : Int) ^ k ≤ 8192 := pow2_le4 (b := 13) hk5
    have hp0 : (0 : Int) < 2 ^ k := Int.pow_pos (by omega)
    have hx : (2 + s % 2) * 2 ^ k ≤ 4 * 8192 := Int.mul_le_mul (by omega) hp (by omega) (by omega)
    have hx0 : 0 ≤ (2 + s % 2) * 2 ^ k := Int.mul_nonneg (by omega) (by omega)
    go_enter Try.func46, Try.ntmps46
    go_wp2
    go_ret2
    rw [KE.out]
    exact ⟨rfl, rfl⟩
end Go.Proofs.Ytjijkcmbbccfmaa
