/-
  Walks: sizeValue and the document's size.
-/
import Derived.Test.YtkidoknklgoffaaNuW10
namespace Go.Proofs.Ytkidoknklgoffaa.Nu
open Go.RowKit

def sizeOk (xs : List Int) : Bool := decide (sizeV xs < 18446744073709551616)
def sizeOut (xs : List Int) : Int := if sizeV xs < 18446744073709551616 then sizeV xs else 0

theorem take_snoc (xs : List Int) (k : Nat) (h : k < xs.length) : xs.take (k + 1) = xs.take k ++ [xs.getD k 0] := by
  rw [List.take_succ_eq_append_getElem h]
  simp [List.getD, List.getElem?_eq_getElem h]

theorem sizeV_take_snoc (xs : List Int) (k : Nat) (h : k < xs.length) : sizeV (xs.take (k + 1)) = sizeV (xs.take k) + 2 ^ (7 * k) * (xs.getD k 0 % 128) := by
  rw [take_snoc xs k h, sizeV_snoc, pow128]
  congr 3
  simp
  omega
theorem sizeV_take_le (xs : List Int) (k : Nat) : sizeV (xs.take k) ≤ sizeV xs := by
  have := sizeV_append (xs.take k) (xs.drop k)
  rw [List.take_append_drop] at this
  have h1 := sizeV_nonneg (xs.drop k)
  have h2 : (0 : Int) < 128 ^ (xs.take k).length := Int.pow_pos (by omega)
  have h3 := Int.mul_nonneg (Int.le_of_lt h2) h1
  omega
theorem sizeV_take_lt (xs : List Int) (k : Nat) (h : k ≤ xs.length) : sizeV (xs.take k) < 2 ^ (7 * k) := by
  have := sizeV_lt (xs.take k)
  rw [pow128, show (xs.take k).length = k from by simp; omega] at this
  exact this

set_option maxHeartbeats 1000000 in
theorem sizeValue_any (v : Value) (xs : List Int) (w : World) (h : Rd w v xs) (hl : xs.length + 20 ≤ 140737488355328) :
    Calls Try.prog 38 #[v] w fun e w' => e = .returned (.tuple #[.int .u64 (sizeOut xs), .bool (sizeOk xs)]) ∧ w' = w := by
  have hA := h.allB
  obtain ⟨a, c, rfl, -, -, -, hF⟩ := h.form
  clear h
  have HF : Hid (0 < xs.length → ∃ b off, a = some ⟨b, off, none⟩ ∧ ∀ i, i < xs.length → w.cell? ⟨b, off + i, none⟩ = some (.int .u8 (xs.getD i 0))) := hF
  clear hF
  go_enter Try.func38, Try.ntmps38
  go_wp2
  go_loop [4, 10] (fun q i => ∃ k : Nat, i = .int .i64 k ∧ k ≤ xs.length ∧ q = .int .u64 (sizeV (xs.take k)) ∧ sizeV (xs.take k) < 18446744073709551616) (fun _ i => xs.length - (intOf i).toNat)
  case atStart => exact ⟨0, rfl, Nat.zero_le _, rfl, by simp [sizeV]⟩
  case round =>
    obtain ⟨k, rfl, hk, rfl, hv⟩ := hrel
    by_cases hlt : k < xs.length
    · obtain ⟨b, off, rfl, hc⟩ := HF.out (by omega)
      have hc1 := hc k hlt
      have hb := hA.getD k
      have HS : Hid (sizeV (xs.take (k + 1)) = sizeV (xs.take k) + 2 ^ (7 * k) * (xs.getD k 0 % 128) ∧ sizeV (xs.take (k + 1)) ≤ sizeV xs) := ⟨sizeV_take_snoc xs k hlt, sizeV_take_le xs (k + 1)⟩
      have hlo := sizeV_nonneg (xs.take k)
      have hhi := sizeV_take_lt xs k hk
      clear hc
      generalize xs.getD k 0 = y at *
      generalize hq : sizeV (xs.take k) = q at *
      have HQ : Hid (sizeV (xs.take k) = q) := hq
      clear hq
      have hand : bits .and .u8 y 127 = y % 128 := by
        rw [u8_and y 127 (by omega) (by omega) (by omega) (by omega), show (127 : Int).toNat = 127 from rfl, nat_mask7]
        omega
      by_cases h0 : y % 128 = 0
      · have h0' : (y % 128 == 0) = true := by simp [h0]
        have H0 : Hid (y % 128 = 0) := h0
        have HV : Hid (q < 18446744073709551616) := hv
        clear h0
        go_wp2
        go_round
        case rel =>
          have e := HS.out.1
          rw [H0.out, Int.mul_zero, Int.add_zero] at e
          exact ⟨k + 1, by go_num, by omega, by rw [e], by rw [e]; exact HV.out⟩
        case measure => simp [intOf]; omega
      · have h0' : (y % 128 == 0) = false := by simp [h0]
        by_cases h9 : 9 < k ∨ (k = 9 ∧ 1 < y % 128)
        · have hbig : 18446744073709551616 ≤ sizeV xs := by
            obtain ⟨e1, e2⟩ := HS.out
            have := group_big q (y % 128) k hlo (by omega) h9
            omega
          have E : Hid (sizeOut xs = 0 ∧ sizeOk xs = false) := (by show _ ∧ _; unfold sizeOut sizeOk; constructor; exact if_neg (by omega); simp; omega)
          clear hbig
          rcases h9 with h9 | ⟨h9, h1⟩
          · go_wp2
            go_ret2
            exact ⟨by rw [E.out.1, E.out.2]; rfl, rfl⟩
          · have g1 : ¬ (9 < (k : Int)) := by omega
            have g2 : ((k : Int) == 9) = true := by rw [beq_iff_eq]; omega
            clear h9
            go_wp2
            go_ret2
            exact ⟨by rw [E.out.1, E.out.2]; rfl, rfl⟩
        · have g1 : ¬ (9 < (k : Int)) := by omega
          have hkl : 7 * k ≤ 63 := by omega
          obtain ⟨hor, hup⟩ := or_group q (y % 128) k hlo hhi hv (by omega) (by omega) (by omega)
          have HOR : Hid _ := hor
          have HUP : Hid _ := hup
          clear hor hup
          by_cases h10 : k = 9
          · have g2 : ((k : Int) == 9) = true := by rw [beq_iff_eq]; omega
            have g3 : ¬ 1 < y % 128 := by omega
            clear h10 h9
            go_wp2
            go_round
            case rel => exact ⟨k + 1, by go_num, by omega, by rw [HS.out.1, HOR.out], by rw [HS.out.1]; exact HUP.out⟩
            case measure => simp [intOf]; omega
          · have g2 : ((k : Int) == 9) = false := by rw [beq_eq_false_iff_ne]; omega
            clear h10 h9
            go_wp2
            go_round
            case rel => exact ⟨k + 1, by go_num, by omega, by rw [HS.out.1, HOR.out], by rw [HS.out.1]; exact HUP.out⟩
            case measure => simp [intOf]; omega
    · have e : xs.take k = xs := List.take_of_length_le (by omega)
      rw [e] at hv
      have E : Hid (sizeOut xs = sizeV xs ∧ sizeOk xs = true) := (by show _ ∧ _; simp [sizeOut, sizeOk, hv])
      rw [e]
      clear e
      go_wp2
      go_ret2
      exact ⟨by rw [E.out.1, E.out.2]; rfl, rfl⟩

theorem sizeV_drop_le (xs : List Int) (k : Nat) : sizeV (xs.drop k) ≤ sizeV xs := by
  have := sizeV_append (xs.take k) (xs.drop k)
  rw [List.take_append_drop] at this
  have h0 := sizeV_nonneg (xs.take k)
  have h1 := sizeV_nonneg (xs.drop k)
  have h2 : (0 : Int) < 128 ^ (xs.take k).length := Int.pow_pos (by omega)
  have h3 : 1 * sizeV (xs.drop k) ≤ 128 ^ (xs.take k).length * sizeV (xs.drop k) := Int.mul_le_mul_of_nonneg_right (by omega) h1
  omega

set_option maxHeartbeats 1000000 in
theorem docSizeV_any (v : Value) (xs : List Int) (w : World) (h : Rd w v xs) (hl : xs.length + 20 ≤ 140737488355328) :
    Calls Try.prog 33 #[v] w fun e w' => e = .returned (.tuple #[.int .u64 (sizeOut xs), .bool (sizeOk xs)]) ∧ w' = w := by
  have hA := h.allB
  obtain ⟨a, c, rfl, -, -, -, hF⟩ := h.form
  clear h
  have HF : Hid (0 < xs.length → ∃ b off, a = some ⟨b, off, none⟩ ∧ ∀ i, i < xs.length → w.cell? ⟨b, off + i, none⟩ = some (.int .u8 (xs.getD i 0))) := hF
  clear hF
  go_enter Try.func33, Try.ntmps33
  go_wp2
  go_loop [4, 5] (fun q i => ∃ k : Nat, i = .int .i64 ((k : Int) - 1) ∧ k ≤ xs.length ∧ q = .int .u64 (sizeV (xs.drop k)) ∧ sizeV (xs.drop k) < 18446744073709551616) (fun _ i => (intOf i + 1).toNat)
  case atStart => exact ⟨xs.length, rfl, Nat.le_refl _, by simp [sizeV], by simp [sizeV]⟩
  case round =>
    obtain ⟨k, rfl, hk, rfl, hv⟩ := hrel
    by_cases hlt : 0 < k
    · obtain ⟨j, rfl⟩ : ∃ j, k = j + 1 := ⟨k - 1, by omega⟩
      obtain ⟨b, off, rfl, hc⟩ := HF.out (by omega)
      have hc1 := hc j (by omega)
      have hb := hA.getD j
      have hj : (j : Int) < (xs.length : Int) := by omega
      have HS : Hid (sizeV (xs.drop j) = xs.getD j 0 % 128 + 128 * sizeV (xs.drop (j + 1)) ∧ sizeV (xs.drop j) ≤ sizeV xs) := ⟨by rw [drop_cons xs j (by omega), sizeV], sizeV_drop_le xs j⟩
      have hlo := sizeV_nonneg (xs.drop (j + 1))
      clear hc
      generalize xs.getD j 0 = y at *
      generalize hq : sizeV (xs.drop (j + 1)) = q at *
      clear hq
      by_cases h57 : 144115188075855872 ≤ q
      · have E : Hid (sizeOut xs = 0 ∧ sizeOk xs = false) := (by
          show _ ∧ _
          obtain ⟨e1, e2⟩ := HS.out
          unfold sizeOut sizeOk
          constructor
          · exact if_neg (by omega)
          · simp
            omega)
        go_wp2
        go_ret2
        exact ⟨by rw [E.out.1, E.out.2]; rfl, rfl⟩
      · go_wp2
        go_round
        case rel => exact ⟨j, by go_num, by omega, by rw [HS.out.1, Int.add_comm, Int.mul_comm], by rw [HS.out.1]; omega⟩
        case measure => simp [intOf]
    · obtain rfl : k = 0 := by omega
      simp only [List.drop_zero] at hv
      have E : Hid (sizeOut xs = sizeV xs ∧ sizeOk xs = true) := (by show _ ∧ _; simp [sizeOut, sizeOk, hv])
      simp only [List.drop_zero]
      go_wp2
      go_ret2
      exact ⟨by rw [E.out.1, E.out.2]; rfl, rfl⟩
end Go.Proofs.Ytkidoknklgoffaa.Nu
