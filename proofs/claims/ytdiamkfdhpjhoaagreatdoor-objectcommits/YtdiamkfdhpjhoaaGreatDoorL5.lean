/-
  Walks: PutTag.
-/
import Derived.Test.YtdiamkfdhpjhoaaGreatDoorL4
import Derived.Test.YtdiamkfdhpjhoaaGreatDoorShH2
import Derived.Test.YtdiamkfdhpjhoaaGreatDoorO9
namespace Go.Proofs.YtdiamkfdhpjhoaaGreatDoor
open Go.RowKit

theorem idF_facts {i : Idt} (h : idF i = true) : 0 ≤ i.tm ∧ i.tm ≤ 1099511627776 ∧ -1439 ≤ i.zn ∧ i.zn ≤ 1439 ∧ i.nm.size ≤ 100 ∧ i.em.size ≤ 100 := by
  unfold idF whoF at h
  simp only [Bool.and_eq_true, decide_eq_true_eq] at h
  omega
theorem putB_small {i : Idt} (h : idF i = true) : (putB i).size ≤ 300 := by
  have hb := idF_facts h
  have hTl : (⟨(Lib.itoa i.tm).toArray⟩ : ByteArray).size ≤ 20 := by
    show (Lib.itoa i.tm).toArray.size ≤ 20
    rw [List.size_toArray]
    unfold Lib.itoa
    rw [if_neg (by omega), Lib.decDigits_length]
    exact Nat.le_trans (ndig_le i.tm.toNat 13 (by omega) (by have : (10 ^ 13 : Nat) = 10000000000000 := by decide
                                                             omega)) (by omega)
  have hZl : (zoneB i.zn).size ≤ 10 := by
    unfold zoneB
    rw [size_cat, ByteArray.size_extract, zdB_size (by omega)]
    split
    · show 1 + _ ≤ 10; omega
    · show 1 + _ ≤ 10; omega
  have l2 : (⟨#[32, 60]⟩ : ByteArray).size = 2 := rfl
  have l3 : (⟨#[62, 32]⟩ : ByteArray).size = 2 := rfl
  have l4 : (⟨#[32]⟩ : ByteArray).size = 1 := rfl
  unfold putB
  simp only [size_cat]
  omega
theorem strL_back {l : List Int} (h : ∀ c ∈ l, 0 ≤ c ∧ c < 256) : strL (strOfNums l) = l := by
  unfold strL
  rw [strOfNums_data]
  induction l with
  | nil => rfl
  | cons c l ih =>
    have hc := h c List.mem_cons_self
    have := ih (fun x hx => h x (List.mem_cons_of_mem _ hx))
    simp only [List.map_cons, List.cons.injEq]
    refine ⟨?_, this⟩
    have e : (UInt8.ofNat c.toNat).toNat = c.toNat := by rw [UInt8.toNat_ofNat']; omega
    omega
/-- The bytes of a tag that is right. -/
def tgL (c : LbC) : List Int := [111, 98, 106, 101, 99, 116] ++ [32] ++ Sh.hexF c.tg ++ [10] ++ [116, 121, 112, 101] ++ [32] ++ strL (wdF c.k) ++ [10] ++ [116, 97, 103] ++ [32] ++ strL c.nm ++ [10] ++ [116, 97, 103, 103, 101, 114] ++ [32] ++ strL (putB c.ig) ++ [10] ++ [10] ++ strL c.ms
def ptgL (c : LbC) : List Int := if teF c = 0 then tgL c else []
theorem teF_ok {c : LbC} (h : teF c = 0) : c.ms.size ≤ 65536 ∧ tnF c.nm = true ∧ idF c.ig = true ∧ hzF c.ms = false ∧ isK c.k = true := by
  unfold teF at h
  by_cases h1 : 65536 < c.ms.size
  · rw [if_pos h1] at h; omega
  · rw [if_neg h1] at h
    by_cases h2 : tnF c.nm = false ∨ idF c.ig = false
    · rw [if_pos h2] at h; omega
    · rw [if_neg h2] at h
      by_cases h3 : hzF c.ms = true
      · rw [if_pos h3] at h; omega
      · rw [if_neg h3] at h
        by_cases h4 : isK c.k = false
        · rw [if_pos h4] at h; omega
        · refine ⟨by omega, ?_, ?_, by simpa using h3, by simpa using h4⟩
          · cases hq : tnF c.nm with
            | true => rfl
            | false => exact absurd (.inl hq) h2
          · cases hq : idF c.ig with
            | true => rfl
            | false => exact absurd (.inr hq) h2
theorem tnF_size {s : ByteArray} (h : tnF s = true) : s.size ≤ 100 := by
  unfold tnF at h
  simp only [Bool.and_eq_true, decide_eq_true_eq] at h
  exact h.1.2
end Go.Proofs.YtdiamkfdhpjhoaaGreatDoor
