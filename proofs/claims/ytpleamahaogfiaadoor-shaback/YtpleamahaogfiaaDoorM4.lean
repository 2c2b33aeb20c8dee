/-
  The plain mathematics of digits and order.
-/
import Derived.Test.YtpleamahaogfiaaDoorX3
namespace Go.Proofs.YtpleamahaogfiaaDoor
open Go.RowKit

theorem dgt_isD (d : Int) (h0 : 0 ≤ d) (h1 : d < 16) : isD (dgt d) = true := by
  unfold isD dgt
  simp
  split <;> omega
theorem valD_dgt (d : Int) (h0 : 0 ≤ d) (h1 : d < 16) : valD (dgt d) = d := by
  unfold valD dgt
  split <;> split <;> omega
theorem dgt_valD (c : Int) (h : isD c = true) : dgt (valD c) = c := by
  simp [isD] at h
  unfold valD dgt
  split <;> split <;> omega
theorem dgt_lt (d e : Int) (h0 : 0 ≤ d) (h1 : d < 16) (h2 : 0 ≤ e) (h3 : e < 16) : dgt d < dgt e ↔ d < e := by
  unfold dgt
  split <;> split <;> omega

theorem cmpZ_neg : ∀ (xs ys : List Int), cmpZ xs ys = - cmpZ ys xs
  | [], [] => rfl
  | [], _ :: _ => rfl
  | _ :: _, [] => rfl
  | x :: xs, y :: ys => by
    have ih := cmpZ_neg xs ys
    simp only [cmpZ]
    by_cases h1 : x < y
    · rw [if_pos h1, if_neg (by omega), if_pos h1]
    · by_cases h2 : y < x
      · rw [if_neg h1, if_pos h2, if_pos h2]
        rfl
      · rw [if_neg h1, if_neg h2, if_neg h2, if_neg h1, ih]
theorem hexF_cons (x : Int) (xs : List Int) : hexF (x :: xs) = dgt (x / 16) :: dgt (x % 16) :: hexF xs := rfl
/-- Ids are ordered as their digits are. -/
theorem cmpZ_hex : ∀ {xs ys : List Int}, AllB xs → AllB ys → cmpZ (hexF xs) (hexF ys) = cmpZ xs ys
  | [], [], _, _ => rfl
  | [], _ :: _, _, _ => rfl
  | _ :: _, [], _, _ => rfl
  | x :: xs, y :: ys, hx, hy => by
    have ih := cmpZ_hex (xs := xs) (ys := ys) (fun z hz => hx z (by simp [hz])) (fun z hz => hy z (by simp [hz]))
    have h1 := hx x (by simp)
    have h2 := hy y (by simp)
    have a1 := dgt_lt (x / 16) (y / 16) (by omega) (by omega) (by omega) (by omega)
    have a2 := dgt_lt (y / 16) (x / 16) (by omega) (by omega) (by omega) (by omega)
    have a3 := dgt_lt (x % 16) (y % 16) (by omega) (by omega) (by omega) (by omega)
    have a4 := dgt_lt (y % 16) (x % 16) (by omega) (by omega) (by omega) (by omega)
    rw [hexF_cons, hexF_cons]
    simp only [cmpZ, a1, a2, a3, a4, ih]
    by_cases b1 : x / 16 < y / 16
    · rw [if_pos b1, if_pos (by omega)]
    · by_cases b2 : y / 16 < x / 16
      · rw [if_neg b1, if_pos b2, if_neg (by omega), if_pos (by omega)]
      · rw [if_neg b1, if_neg b2]
        by_cases b3 : x % 16 < y % 16
        · rw [if_pos b3, if_pos (by omega)]
        · by_cases b4 : y % 16 < x % 16
          · rw [if_neg b3, if_pos b4, if_neg (by omega), if_pos (by omega)]
          · rw [if_neg b3, if_neg b4, if_neg (by omega), if_neg (by omega)]

theorem hexF_get : ∀ (xs : List Int) (i : Nat), i < xs.length → (hexF xs).getD (2 * i) 0 = dgt (xs.getD i 0 / 16) ∧ (hexF xs).getD (2 * i + 1) 0 = dgt (xs.getD i 0 % 16)
  | [], i, h => by simp at h
  | x :: xs, 0, _ => ⟨rfl, rfl⟩
  | x :: xs, i + 1, h => by
    have ih := hexF_get xs i (by simpa using h)
    rw [hexF_cons]
    exact ih
theorem sN_str (xs : List Int) (h : AllB xs) (i : Nat) (hi : i < xs.length) : sN (strOfNums xs) i = xs.getD i 0 := by
  have hx := h.getD i
  have e : (strOfNums xs).data.getD i 0 = UInt8.ofNat (xs.getD i 0).toNat := by
    simp [strOfNums, List.getD, List.getElem?_eq_getElem hi]
  unfold sN
  rw [e]
  generalize xs.getD i 0 = x at *
  have h2 : (UInt8.ofNat x.toNat).toNat = x.toNat := by
    rw [UInt8.toNat_ofNat']
    omega
  rw [h2]
  omega
/-- What is written in digits is read again. -/
theorem okS_hex {xs : List Int} (hl : xs.length = 32) (hA : AllB xs) : okS (strOfNums (hexF xs)) = true := by
  have hlen : (hexF xs).length = 64 := by rw [hexF_length, hl]
  simp only [okS, Bool.and_eq_true, decide_eq_true_eq, List.all_eq_true, List.mem_range]
  refine ⟨by rw [strOfNums_size, hlen], fun i hi => ?_⟩
  rw [sN_str _ (hexF_allB hA) i (by omega)]
  have hx := hA.getD (i / 2)
  have hg := hexF_get xs (i / 2) (by omega)
  rcases Nat.mod_two_eq_zero_or_one i with h | h
  · rw [show i = 2 * (i / 2) from by omega, hg.1]
    exact dgt_isD _ (by omega) (by omega)
  · rw [show i = 2 * (i / 2) + 1 from by omega, hg.2]
    exact dgt_isD _ (by omega) (by omega)
theorem parF_hex {xs : List Int} (hl : xs.length = 32) (hA : AllB xs) : parF (strOfNums (hexF xs)) = xs := by
  have hlen : (hexF xs).length = 64 := by rw [hexF_length, hl]
  rw [parF, if_pos (okS_hex hl hA)]
  apply List.ext_getElem?
  intro i
  rcases Nat.lt_or_ge i 32 with h | h
  · have hx := hA.getD i
    have hg := hexF_get xs i (by omega)
    simp only [List.getElem?_map, List.getElem?_range h, Option.map_some, pairD]
    rw [sN_str _ (hexF_allB hA) _ (by omega), sN_str _ (hexF_allB hA) _ (by omega), hg.1, hg.2, valD_dgt _ (by omega) (by omega), valD_dgt _ (by omega) (by omega)]
    have e : xs[i]? = some (xs.getD i 0) := by simp [List.getD, List.getElem?_eq_getElem (show i < xs.length by omega)]
    rw [e]
    congr 1
    omega
  · rw [List.getElem?_eq_none (by simpa using h), List.getElem?_eq_none (by omega)]
/-- Only what would be written is read. -/
theorem hex_parF {s : ByteArray} (h : okS s = true) : strOfNums (hexF (parF s)) = s := by
  have h' := h
  simp only [okS, Bool.and_eq_true, decide_eq_true_eq, List.all_eq_true, List.mem_range] at h'
  obtain ⟨hsz, hd⟩ := h'
  rw [parF, if_pos h]
  have hlen : ((List.range 32).map (pairD s)).length = 32 := by simp
  have hget : ∀ i, i < 32 → ((List.range 32).map (pairD s)).getD i 0 = pairD s i := fun i hi => by simp [List.getD, hi]
  have hch : ∀ j, j < 64 → (hexF ((List.range 32).map (pairD s))).getD j 0 = sN s j := fun j hj => by
    have hg := hexF_get ((List.range 32).map (pairD s)) (j / 2) (by omega)
    rw [hget (j / 2) (by omega)] at hg
    have v0 := valD_range _ (hd (2 * (j / 2)) (by omega))
    have v1 := valD_range _ (hd (2 * (j / 2) + 1) (by omega))
    rcases Nat.mod_two_eq_zero_or_one j with hm | hm
    · rw [show j = 2 * (j / 2) from by omega, hg.1, pairD, show (valD (sN s (2 * (j / 2))) * 16 + valD (sN s (2 * (j / 2) + 1))) / 16 = valD (sN s (2 * (j / 2))) from by omega]
      exact dgt_valD _ (hd _ (by omega))
    · rw [show j = 2 * (j / 2) + 1 from by omega, hg.2, pairD, show (valD (sN s (2 * (j / 2))) * 16 + valD (sN s (2 * (j / 2) + 1))) % 16 = valD (sN s (2 * (j / 2) + 1)) from by omega]
      exact dgt_valD _ (hd _ (by omega))
  apply ByteArray.ext
  apply Array.ext'
  rw [strOfNums_data]
  apply List.ext_getElem?
  intro j
  have hl64 : (hexF ((List.range 32).map (pairD s))).length = 64 := by rw [hexF_length, hlen]
  rcases Nat.lt_or_ge j 64 with hj | hj
  · have e1 : (hexF ((List.range 32).map (pairD s)))[j]? = some ((hexF ((List.range 32).map (pairD s))).getD j 0) := by simp [List.getD, List.getElem?_eq_getElem (show j < (hexF ((List.range 32).map (pairD s))).length by omega)]
    have hjs : j < s.data.size := by have : s.data.size = 64 := hsz; omega
    rw [List.getElem?_map, e1, Option.map_some, hch j hj]
    simp only [sN, Array.getD, Int.toNat_natCast, UInt8.ofNat_toNat]
    rw [dif_pos hjs, Array.getElem?_toList, Array.getElem?_eq_getElem hjs]
    rfl
  · rw [List.getElem?_eq_none (by simpa [hl64] using hj), List.getElem?_eq_none (by have : s.data.size = 64 := hsz; simp; omega)]
theorem parE_hex {xs : List Int} (hl : xs.length = 32) (hA : AllB xs) : parE (strOfNums (hexF xs)) = 0 := by rw [parE, if_pos (okS_hex hl hA)]
theorem parF_allB (s : ByteArray) : AllB (parF s) := by
  intro x hx
  unfold parF at hx
  split at hx
  · rename_i h
    simp only [okS, Bool.and_eq_true, decide_eq_true_eq, List.all_eq_true, List.mem_range] at h
    obtain ⟨i, hi, rfl⟩ := List.mem_map.1 hx
    have hi' := List.mem_range.1 hi
    have v0 := valD_range _ (h.2 (2 * i) (by omega))
    have v1 := valD_range _ (h.2 (2 * i + 1) (by omega))
    unfold pairD
    omega
  · have := (List.mem_replicate.1 hx).2
    omega
end Go.Proofs.YtpleamahaogfiaaDoor
