/-
  The plain mathematics of digits: what is written in digits is read again.
-/
import Derived.Test.YtkbalngddlhlpaaGreatDoorShD3
import Derived.Test.YtkbalngddlhlpaaGreatDoorShH2
namespace Go.Proofs.YtkbalngddlhlpaaGreatDoor.Sh
open Go.RowKit

theorem dgt_isD (d : Int) (h0 : 0 ≤ d) (h1 : d < 16) : isD (dgt d) = true := by
  unfold isD dgt
  simp
  split <;> omega
theorem valD_dgt (d : Int) (h0 : 0 ≤ d) (h1 : d < 16) : valD (dgt d) = d := by
  unfold valD dgt
  split <;> split <;> omega
theorem hexF_cons (x : Int) (xs : List Int) : hexF (x :: xs) = dgt (x / 16) :: dgt (x % 16) :: hexF xs := rfl
theorem hexF_get : ∀ (xs : List Int) (i : Nat), i < xs.length → (hexF xs).getD (2 * i) 0 = dgt (xs.getD i 0 / 16) ∧ (hexF xs).getD (2 * i + 1) 0 = dgt (xs.getD i 0 % 16)
  | [], i, h => by simp at h
  | x :: xs, 0, _ => ⟨rfl, rfl⟩
  | x :: xs, i + 1, h => by
    have ih := hexF_get xs i (by simpa using h)
    rw [hexF_cons]
    exact ih
theorem sN_str (xs : List Int) (h : AllB xs) (i : Nat) (hi : i < xs.length) : sN (strOfNums xs) i = xs.getD i 0 := by
  have hx := h.getD i
  have e : (strOfNums xs).data.getD i 0 = UInt8.ofNat (xs.getD i 0).toNat := by
    simp [strOfNums, List.getD, List.getElem?_eq_getElem hi]
  unfold sN
  rw [e]
  generalize xs.getD i 0 = x at *
  have h2 : (UInt8.ofNat x.toNat).toNat = x.toNat := by
    rw [UInt8.toNat_ofNat']
    omega
  rw [h2]
  omega
theorem okS_hex {xs : List Int} (hl : xs.length = 32) (hA : AllB xs) : okS (strOfNums (hexF xs)) = true := by
  have hlen : (hexF xs).length = 64 := by rw [hexF_length, hl]
  simp only [okS, Bool.and_eq_true, decide_eq_true_eq, List.all_eq_true, List.mem_range]
  refine ⟨by rw [strOfNums_size, hlen], fun i hi => ?_⟩
  rw [sN_str _ (hexF_allB hA) i (by omega)]
  have hx := hA.getD (i / 2)
  have hg := hexF_get xs (i / 2) (by omega)
  rcases Nat.mod_two_eq_zero_or_one i with h | h
  · rw [show i = 2 * (i / 2) from by omega, hg.1]
    exact dgt_isD _ (by omega) (by omega)
  · rw [show i = 2 * (i / 2) + 1 from by omega, hg.2]
    exact dgt_isD _ (by omega) (by omega)
theorem parF_hex {xs : List Int} (hl : xs.length = 32) (hA : AllB xs) : parF (strOfNums (hexF xs)) = xs := by
  have hlen : (hexF xs).length = 64 := by rw [hexF_length, hl]
  rw [parF, if_pos (okS_hex hl hA)]
  apply List.ext_getElem?
  intro i
  rcases Nat.lt_or_ge i 32 with h | h
  · have hx := hA.getD i
    have hg := hexF_get xs i (by omega)
    simp only [List.getElem?_map, List.getElem?_range h, Option.map_some, pairD]
    rw [sN_str _ (hexF_allB hA) _ (by omega), sN_str _ (hexF_allB hA) _ (by omega), hg.1, hg.2, valD_dgt _ (by omega) (by omega), valD_dgt _ (by omega) (by omega)]
    have e : xs[i]? = some (xs.getD i 0) := by simp [List.getD, List.getElem?_eq_getElem (show i < xs.length by omega)]
    rw [e]
    congr 1
    omega
  · rw [List.getElem?_eq_none (by simpa using h), List.getElem?_eq_none (by omega)]
end Go.Proofs.YtkbalngddlhlpaaGreatDoor.Sh
