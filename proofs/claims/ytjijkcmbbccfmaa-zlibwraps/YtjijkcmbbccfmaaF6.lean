/-
  Walks: Len.
-/
import Derived.Test.YtjijkcmbbccfmaaF5
namespace Go.Proofs.Ytjijkcmbbccfmaa
open Go.RowKit

/-- How many bits a number has. -/
def lenN (x : Nat) : Nat := if x = 0 then 0 else Nat.log2 x + 1
theorem lenN_lt (x : Nat) : x < 2 ^ lenN x := by
  unfold lenN
  split
  · omega
  · exact Nat.lt_log2_self
theorem lenN_le {x : Nat} (h : 0 < x) : 2 ^ lenN x ≤ 2 * x := by
  unfold lenN
  rw [if_neg (by omega), Nat.pow_succ]
  have := Nat.log2_self_le (n := x) (by omega)
  omega
theorem lenN_uniq {x k : Nat} (h : 0 < x) (h1 : x < 2 ^ k) (h2 : 2 ^ k ≤ 2 * x) : k = lenN x := by
  have h3 := lenN_lt x
  have h4 := lenN_le h
  rcases Nat.lt_trichotomy k (lenN x) with h5 | h5 | h5
  · have : 2 ^ (k + 1) ≤ 2 ^ lenN x := Nat.pow_le_pow_right (by omega) (by omega)
    rw [Nat.pow_succ] at this
    omega
  · exact h5
  · have : 2 ^ (lenN x + 1) ≤ 2 ^ k := Nat.pow_le_pow_right (by omega) (by omega)
    rw [Nat.pow_succ] at this
    omega
theorem lenN_high {x : Nat} (h : 256 ≤ x) : lenN (x / 256) + 8 = lenN x := by
  refine lenN_uniq (by omega) ?_ ?_
  · have := lenN_lt (x / 256)
    rw [Nat.pow_add]
    omega
  · have := lenN_le (x := x / 256) (by omega)
    rw [Nat.pow_add]
    omega
theorem lenN_small {x k : Nat} (h : x < 2 ^ k) : lenN x ≤ k := by
  rcases Nat.lt_or_ge k (lenN x) with h1 | h1
  · exfalso
    by_cases h0 : x = 0
    · subst h0
      simp [lenN] at h1
    · have h2 := lenN_le (x := x) (by omega)
      have : 2 ^ (k + 1) ≤ 2 ^ lenN x := Nat.pow_le_pow_right (by omega) (by omega)
      rw [Nat.pow_succ] at this
      omega
  · exact h1

/-- A table of 256 bytes that is a constant text. -/
theorem index_tab {T : ByteArray} {f : Nat → Nat} (hT : (List.range 256).all (fun i => T[i]? == some (UInt8.ofNat (f i))) = true) (k : IntKind) (i : Nat) (W : World) (hf : f i < 256) (hi : i < 256) :
    (Instr.index 9 (.string T) (.int k (i : Int))).run Try.prog W = .ok (.int .u8 (f i)) W := by
  have h1 := List.all_eq_true.1 hT i (by simpa using hi)
  have h2 : T[i]? = some (UInt8.ofNat (f i)) := by simpa using h1
  obtain ⟨h3, h4⟩ := getElem?_eq_some_iff.1 h2
  have h5 : i < T.size := h3
  rw [run_index_string (P := Try.prog) (t := 9) (h := Try.underlying9), dif_pos ⟨by omega, by omega⟩]
  have h6 : (T[i]'h3).toNat = f i := by
    rw [h4]
    simp
    omega
  simp only [Int.toNat_natCast, h6]

set_option maxHeartbeats 1000000 in
set_option maxRecDepth 100000 in
theorem len64_any (x : Nat) (hx : x < 65536) (w : World) :
    Calls Try.prog 41 #[.int .u64 x] w fun e w' => e = .returned (.int .i64 (lenN x)) ∧ w' = w := by
  have hd1 : decide ((4294967296 : Int) ≤ (x : Int)) = false := by simp; omega
  have hd2 : decide ((65536 : Int) ≤ (x : Int)) = false := by simp; omega
  by_cases h8 : x < 256
  · have hd3 : decide ((256 : Int) ≤ (x : Int)) = false := by simp; omega
    have hx8 : (x : Int) < 256 := by omega
    have hl := lenN_small (x := x) (k := 8) (by omega)
    go_enter Try.func41, Try.ntmps41
    go_upto_region 10 with fail
    generalize hT : Value.string _ = S
    obtain ⟨T, rfl, hTt⟩ : ∃ T : ByteArray, S = Value.string T ∧ (List.range 256).all (fun i => T[i]? == some (UInt8.ofNat (lenN i))) = true := by
      subst hT
      exact ⟨_, rfl, by kernel_rfl⟩
    clear hT
    have hm : ∀ W, (Instr.index 9 (.string T) (.int .u8 (x : Int))).run Try.prog W = .ok (.int .u8 (lenN x)) W := fun W => index_tab hTt .u8 x W (by omega) h8
    clear hTt
    obtain ⟨M, hM⟩ : ∃ M, lenN x = M := ⟨_, rfl⟩
    rw [hM] at hm hl
    have KM := Kept.mk hM
    clear hM
    go_wp2
    go_ret
    refine ⟨?_, rfl⟩
    rw [KM.out]
    rfl
  · have hd3 : decide ((256 : Int) ≤ (x : Int)) = true := by simp; omega
    have hxd : (x : Int) / 256 < 256 := by omega
    have hl := lenN_small (x := x / 256) (k := 8) (by omega)
    have hh := Kept.mk (lenN_high (x := x) (by omega))
    go_enter Try.func41, Try.ntmps41
    go_upto_region 10 with fail
    generalize hT : Value.string _ = S
    obtain ⟨T, rfl, hTt⟩ : ∃ T : ByteArray, S = Value.string T ∧ (List.range 256).all (fun i => T[i]? == some (UInt8.ofNat (lenN i))) = true := by
      subst hT
      exact ⟨_, rfl, by kernel_rfl⟩
    clear hT
    have hm : ∀ W, (Instr.index 9 (.string T) (.int .u8 ((x : Int) / 256))).run Try.prog W = .ok (.int .u8 (lenN (x / 256))) W := fun W => by
      rw [show (x : Int) / 256 = ((x / 256 : Nat) : Int) from by omega]
      exact index_tab hTt .u8 (x / 256) W (by omega) (by omega)
    clear hTt
    obtain ⟨M, hM⟩ : ∃ M, lenN (x / 256) = M := ⟨_, rfl⟩
    rw [hM] at hm hl
    have KM := Kept.mk hM
    clear hM
    go_wp2
    go_ret
    refine ⟨?_, rfl⟩
    rw [← hh.out, KM.out, show ((M + 8 : Nat) : Int) = 8 + (M : Int) from by omega]
    rfl

set_option maxHeartbeats 1000000 in
set_option maxRecDepth 100000 in
theorem len_any (x : Nat) (hx : x < 65536) (w : World) :
    Calls Try.prog 31 #[.int .u64 x] w fun e w' => e = .returned (.int .i64 (lenN x)) ∧ w' = w := by
  have KC := Kept.mk (len64_any x hx w)
  go_enter Try.func31, Try.ntmps31
  go_wp2_with (go_at_call 41; refine Calls.mono KC.out (fun e w2 hp => ?_); obtain ⟨rfl, rfl⟩ := hp)
  go_ret
  exact ⟨rfl, rfl⟩
end Go.Proofs.Ytjijkcmbbccfmaa
