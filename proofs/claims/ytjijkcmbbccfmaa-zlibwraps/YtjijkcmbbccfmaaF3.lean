/-
  Walks: Reverse16, code.
-/
import Derived.Test.YtjijkcmbbccfmaaF2
namespace Go.Proofs.Ytjijkcmbbccfmaa
open Go.RowKit

/-- Eight bits turned. -/
def r8 (i : Nat) : Nat := i % 2 * 128 + i / 2 % 2 * 64 + i / 4 % 2 * 32 + i / 8 % 2 * 16 + i / 16 % 2 * 8 + i / 32 % 2 * 4 + i / 64 % 2 * 2 + i / 128 % 2
theorem r8_lt (i : Nat) : r8 i < 256 := by unfold r8; omega
theorem and255 (x : Nat) (hx : x < 512) : bits .and .u16 x 255 = (x : Int) % 256 := by
  have h := u16_and_nat x 255 (by omega) (by omega)
  rw [show ((255 : Nat) : Int) = 255 from rfl] at h
  rw [h, show (255 : Nat) = 2 ^ 8 - 1 from rfl, Nat.and_two_pow_sub_one_eq_mod]
  omega

set_option maxHeartbeats 1000000 in
set_option maxRecDepth 100000 in
theorem rev16_any (x : Nat) (hx : x < 512) (w : World) :
    Calls Try.prog 42 #[.int .u16 x] w fun e w' => e = .returned (.int .u16 ((r8 (x / 256) + 256 * r8 (x % 256) : Nat) : Int)) ∧ ∃ m, w' = w.drewN m := by
  have ha := and255 x hx
  go_enter Try.func42, Try.ntmps42
  go_wp2
  generalize hT : Value.string _ = S
  obtain ⟨T, rfl, hTt⟩ : ∃ T : ByteArray, S = Value.string T ∧ (List.range 256).all (fun i => T[i]? == some (UInt8.ofNat (r8 i))) = true := by
    subst hT
    exact ⟨_, rfl, by kernel_rfl⟩
  clear hT
  have hm : ∀ (i : Nat) (W : World), i < 256 → (Instr.index 9 (.string T) (.int .u16 (i : Int))).run Try.prog W = .ok (.int .u8 (r8 i)) W := fun i W hi => by
    have h1 := List.all_eq_true.1 hTt i (by simpa using hi)
    have h2 : T[i]? = some (UInt8.ofNat (r8 i)) := by simpa using h1
    obtain ⟨h3, h4⟩ := getElem?_eq_some_iff.1 h2
    have h5 : i < T.size := h3
    rw [run_index_string (P := Try.prog) (t := 9) (h := Try.underlying9), dif_pos ⟨by omega, by omega⟩]
    have h6 : (T[i]'h3).toNat = r8 i := by
      rw [h4]
      have := r8_lt i
      simp
      omega
    simp only [Int.toNat_natCast, h6]
  have hm1 : ∀ W, (Instr.index 9 (.string T) (.int .u16 ((x : Int) / 256))).run Try.prog W = .ok (.int .u8 (r8 (x / 256))) W := fun W => by
    rw [show (x : Int) / 256 = ((x / 256 : Nat) : Int) from by omega]
    exact hm _ W (by omega)
  have hm2 : ∀ W, (Instr.index 9 (.string T) (.int .u16 ((x : Int) % 256))).run Try.prog W = .ok (.int .u8 (r8 (x % 256))) W := fun W => by
    rw [show (x : Int) % 256 = ((x % 256 : Nat) : Int) from by omega]
    exact hm _ W (by omega)
  have hr1 := r8_lt (x / 256)
  have hr2 := r8_lt (x % 256)
  obtain ⟨A, hA⟩ : ∃ A, r8 (x / 256) = A := ⟨_, rfl⟩
  obtain ⟨B, hB⟩ : ∃ B, r8 (x % 256) = B := ⟨_, rfl⟩
  rw [hA] at hm1 hr1
  rw [hB] at hm2 hr2
  have KA := Kept.mk hA
  have KB := Kept.mk hB
  clear hA hB
  clear hm hTt
  refine wp_region_last _ 10 (by kernel_rfl) (by kernel_rfl) rfl rfl ?_
  simp only [List.take_succ_cons, List.take_zero]
  repeat (go_big_quiet_step (fail))
  refine wpQuiet_nil ?_
  intro m
  go_wp2
  go_ret
  refine ⟨?_, ⟨_, rfl⟩⟩
  have e : bits .or .u16 (A : Int) ((B : Int) * 256) = ((A + 256 * B : Nat) : Int) := by
    rw [show (B : Int) * 256 = ((B * 256 : Nat) : Int) from by omega, u16_or_nat A (B * 256) (by omega) (by omega), Nat.or_comm, nat_join 8 (B * 256) A (by omega) (by omega)]
    congr 1
    omega
  rw [e, KA.out, KB.out]
  rfl

theorem bitsL_low (v c : Int) (n : Nat) : ∀ k, k ≤ n → bitsL (v + 2 ^ n * c) k = bitsL v k
  | 0, _ => rfl
  | k + 1, h => by
    rw [bitsL, bitsL, bitsL_low v c n k (by omega)]
    congr 2
    obtain ⟨d, rfl⟩ : ∃ d, n = k + 1 + d := ⟨n - (k + 1), by omega⟩
    have hp : (2 : Int) ^ k ≠ 0 := by have : (0 : Int) < 2 ^ k := Int.pow_pos (by omega); omega
    rw [show (2 : Int) ^ (k + 1 + d) * c = 2 ^ k * (2 * (2 ^ d * c)) from by rw [Int.pow_add, Int.pow_succ]; simp only [Int.mul_assoc], Int.add_mul_ediv_left _ _ hp]
    omega
theorem bits_val : ∀ (n : Nat) (l : List Int), l.length = n → IsBits l → bitsL (valL l) n = l
  | 0, l, hl, _ => by rw [List.eq_nil_of_length_eq_zero hl]; rfl
  | n + 1, l, hl, h => by
    have e : l = l.take n ++ [l.getD n 0] := by
      have h1 : l.drop n = [l.getD n 0] := by
        rw [List.drop_eq_getElem_cons (by omega), List.drop_of_length_le (by omega)]
        simp [List.getD, List.getElem?_eq_getElem (show n < l.length by omega)]
      rw [← h1, List.take_append_drop]
    have hb : l.getD n 0 = 0 ∨ l.getD n 0 = 1 := h _ (by
      rw [List.getD_eq_getElem?_getD, List.getElem?_eq_getElem (show n < l.length by omega)]
      exact List.getElem_mem _)
    have ht : (l.take n).length = n := by simp; omega
    have hv := valL_range (h.take n)
    rw [ht] at hv
    have ev : valL l = valL (l.take n) + 2 ^ n * l.getD n 0 := by
      conv => lhs; rw [e]
      rw [valL_append, ht]
      simp [valL]
    rw [bitsL, ev, bitsL_low _ _ n n (Nat.le_refl _), bits_val n (l.take n) ht (h.take n)]
    have hp : (2 : Int) ^ n ≠ 0 := by have : (0 : Int) < 2 ^ n := Int.pow_pos (by omega); omega
    rw [Int.add_mul_ediv_left _ _ hp, Int.ediv_eq_zero_of_lt hv.1 hv.2]
    conv => rhs; rw [e]
    congr 2
    omega

/-- A code's bits, the highest first. -/
def codeL (v n : Nat) : List Int := (bitsL v n).reverse
theorem codeL_length (v n : Nat) : (codeL v n).length = n := by rw [codeL, List.length_reverse, bitsL_length]
theorem codeL_bits (v n : Nat) : IsBits (codeL v n) := (isBits_bitsL v n).rev
def revB (n : Nat) : Bool := (List.range 512).all fun v => (decide (2 ^ n ≤ v)) || ((((r8 (v / 256) + 256 * r8 (v % 256)) / 2 ^ (16 - n) : Nat) : Int) == valL (codeL v n))
theorem rev_ok {v n : Nat} (hn : n = 5 ∨ n = 7 ∨ n = 8 ∨ n = 9) (hv : v < 2 ^ n) : (((r8 (v / 256) + 256 * r8 (v % 256)) / 2 ^ (16 - n) : Nat) : Int) = valL (codeL v n) := by
  have h9 : (2 : Nat) ^ n ≤ 2 ^ 9 := Nat.pow_le_pow_right (by omega) (by omega)
  have hB : revB n = true := by
    rcases hn with rfl | rfl | rfl | rfl <;> kernel_rfl
  have := List.all_eq_true.1 hB v (by simp; omega)
  simp only [Bool.or_eq_true, decide_eq_true_eq, beq_iff_eq] at this
  rcases this with h | h
  · omega
  · exact h
theorem code_bits {v n : Nat} (hn : n = 5 ∨ n = 7 ∨ n = 8 ∨ n = 9) (hv : v < 2 ^ n) : bitsL (((r8 (v / 256) + 256 * r8 (v % 256)) / 2 ^ (16 - n) : Nat) : Int) n = codeL v n := by
  rw [rev_ok hn hv]
  exact bits_val n _ (codeL_length v n) (codeL_bits v n)

set_option maxHeartbeats 1000000 in
set_option maxRecDepth 100000 in
theorem code_any {W0 w : World} {rb : Nat} {ob : Option Nat} {L : List Int} {j : Nat} (v n : Nat) (hv : v < 2 ^ n) (hn : n = 5 ∨ n = 7 ∨ n = 8 ∨ n = 9) (h : Wt W0 w rb ob L j) (hj : L.length < 8 * j + 8) (hl : L.length + n ≤ 1073741824) :
    Calls Try.prog 32 #[.pointer (some ⟨rb, 0, none⟩), .int .i64 v, .int .i64 n] w fun e w' => AfterW W0 w w' rb ob (L ++ codeL v n) e := by
  have h9 : (2 : Nat) ^ n ≤ 2 ^ 9 := Nat.pow_le_pow_right (by omega) (by omega)
  have hv9 : v < 512 := by simp only [Nat.reducePow] at h9; omega
  have hv9i : (v : Int) < 512 := by omega
  have hok := Kept.mk (rev_ok hn hv)
  have hr := valL_range (codeL_bits v n)
  rw [codeL_length] at hr
  have KN : Kept (∀ m, Calls Try.prog 19 #[.pointer (some ⟨rb, 0, none⟩), .int .i64 (valL (codeL v n)), .int .i64 n] (w.drewN m) fun e w' => AfterW W0 w w' rb ob (L ++ codeL v n) e) := ⟨fun m => by
    have h1 := wnumber_any (valL (codeL v n)) n hr.1 hr.2 (by omega) (h.drewN m) hj hl
    rw [bits_val n _ (codeL_length v n) (codeL_bits v n)] at h1
    refine h1.mono ?_
    rintro e w' ⟨rfl, ob', j', hW, hlt, hM⟩
    exact ⟨rfl, ob', j', hW, hlt, ((Fq.refl rb ob w).drewN m).mv.trans hM⟩⟩
  have KR := Kept.mk (rev16_any v hv9 w)
  have KV := Kept.mk hr
  clear h hj hl hr
  go_enter Try.func32, Try.ntmps32
  go_wp2_with (go_at_call 42; refine Calls.mono KR.out (fun e w1 hp => ?_); obtain ⟨rfl, m1, rfl⟩ := hp)
  have e1 : wrap64 (((r8 (v / 256) : Int) + 256 * (r8 (v % 256) : Int)) / 2 ^ (16 - n)) = valL (codeL v n) := by
    have h1 := hok.out
    have h2 : ((((r8 (v / 256) + 256 * r8 (v % 256)) / 2 ^ (16 - n) : Nat)) : Int) = ((r8 (v / 256) : Int) + 256 * (r8 (v % 256) : Int)) / 2 ^ (16 - n) := by
      simp
    rw [← h2, h1]
    have h3 := KV.out
    have h4 : (2 : Int) ^ n ≤ 2 ^ 9 := by exact_mod_cast h9
    simp only [Int.reducePow] at h4
    unfold wrap64
    omega
  rw [e1]
  refine Calls.mono (KN.out m1) (fun e w2 hp => ?_)
  obtain ⟨rfl, hW⟩ := hp
  have KW := Kept.mk hW
  clear hW
  go_wp2
  refine bodyPost_end (results_none rfl _ _ _) rfl ?_
  exact ⟨rfl, KW.out⟩
end Go.Proofs.Ytjijkcmbbccfmaa
