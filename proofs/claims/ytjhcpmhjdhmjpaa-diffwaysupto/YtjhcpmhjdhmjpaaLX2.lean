/-
  The lines of a text (pure).
-/
import Derived.Test.YtjhcpmhjdhmjpaaLX1
import Derived.Lib.Bytealg
import Derived.Lib.Bytes
namespace Go.Proofs.Ytjhcpmhjdhmjpaa
open Go.RowKit

/-- How long the first line is. -/
def lnE : List Int → Nat
  | [] => 0
  | x :: r => if x = 10 then 1 else lnE r + 1
/-- The lines of a text. -/
def lnsF : List Int → List (List Int)
  | [] => []
  | x :: r => if x = 10 then [x] :: lnsF r else match lnsF r with
    | [] => [[x]]
    | l :: ls => (x :: l) :: ls
theorem lnE_le : ∀ xs : List Int, lnE xs ≤ xs.length
  | [] => Nat.le_refl _
  | x :: r => by
    have := lnE_le r
    unfold lnE
    rw [List.length_cons]
    split <;> omega
theorem lnE_pos : ∀ {xs : List Int}, xs ≠ [] → 0 < lnE xs
  | [], h => absurd rfl h
  | x :: r, _ => by unfold lnE; split <;> omega
theorem lnsF_step : ∀ {xs : List Int}, xs ≠ [] → lnsF xs = xs.take (lnE xs) :: lnsF (xs.drop (lnE xs))
  | [], h => absurd rfl h
  | x :: r, _ => by
    by_cases hx : x = 10
    · rw [lnsF, lnE, if_pos hx, if_pos hx]; simp
    · rw [lnsF, lnE, if_neg hx, if_neg hx]
      cases r with
      | nil => simp [lnsF, lnE]
      | cons y s =>
        have ih := lnsF_step (xs := y :: s) (by simp)
        rw [ih]
        simp
theorem lnsF_join : ∀ xs : List Int, (lnsF xs).flatten = xs
  | [] => rfl
  | x :: r => by
    have ih := lnsF_join r
    rw [lnsF]
    split
    · rw [List.flatten_cons, ih]; rfl
    · cases h : lnsF r with
      | nil => rw [h] at ih; simp at ih; simp [← ih]
      | cons l ls => rw [h] at ih; simp at ih ⊢; exact ih
theorem lnE_none : ∀ {xs : List Int}, (10 : Int) ∉ xs → lnE xs = xs.length
  | [], _ => rfl
  | x :: r, h => by
    have h1 : ¬ x = 10 := fun e => h (by rw [e]; exact List.mem_cons_self)
    rw [lnE, if_neg h1, lnE_none (fun e => h (List.mem_cons_of_mem _ e)), List.length_cons]
theorem byte_ten {x : Int} (h0 : 0 ≤ x) (h1 : x < 256) : (UInt8.ofNat x.toNat == (10 : Int).toNat.toUInt8) = decide (x = 10) := by
  obtain ⟨n, rfl⟩ : ∃ n : Nat, x = n := ⟨x.toNat, by omega⟩
  have hn : n < 256 := by omega
  rw [Int.toNat_natCast]
  by_cases h : n = 10
  · subst h; rfl
  · have e : ¬ (n : Int) = 10 := by omega
    rw [decide_eq_false e]
    apply beq_eq_false_iff_ne.2
    intro e2
    have := congrArg UInt8.toNat e2
    rw [UInt8.toNat_ofNat', Nat.mod_eq_of_lt (by omega)] at this
    exact h this
theorem idx_ln : ∀ {xs : List Int}, AllB xs → Lib.indexByte (Lib.bytesOf xs) (10 : Int).toNat.toUInt8 = if (10 : Int) ∈ xs then (lnE xs : Int) - 1 else -1
  | [], _ => by simp [Lib.bytesOf, Lib.indexByte]
  | x :: r, h => by
    have ih := idx_ln (xs := r) (fun y hy => h y (List.mem_cons_of_mem _ hy))
    have hx := h x List.mem_cons_self
    have hb := byte_ten hx.1 hx.2
    show Lib.indexByte (UInt8.ofNat x.toNat :: Lib.bytesOf r) _ = _
    rw [Lib.indexByte, hb, ih]
    by_cases e : x = 10
    · rw [lnE, if_pos e]; simp [e]
    · rw [lnE, if_neg e, decide_eq_false e]
      by_cases m : (10 : Int) ∈ r
      · have hp := lnE_pos (xs := r) (by intro e; rw [e] at m; cases m)
        rw [if_pos m, if_pos (List.mem_cons_of_mem _ m)]
        have e1 : ((lnE r : Int) - 1 == -1) = false := by apply beq_eq_false_iff_ne.2; omega
        rw [e1]
        simp
      · have m2 : (10 : Int) ∉ x :: r := fun h' => by
          rcases List.mem_cons.1 h' with h' | h'
          · exact e h'.symm
          · exact m h'
        rw [if_neg m, if_neg m2]
        rfl
/-- The lines, as texts. -/
def lnS (xs : List Int) : List ByteArray := (lnsF xs).map strOfNums
theorem lnS_nil : lnS [] = [] := rfl
theorem lnS_step {xs : List Int} {off : Nat} (h : off < xs.length) {M : List ByteArray} (hM : lnS xs = M ++ lnS (xs.drop off)) : lnS xs = (M ++ [strOfNums ((xs.drop off).take (lnE (xs.drop off)))]) ++ lnS (xs.drop (off + lnE (xs.drop off))) := by
  have hne : xs.drop off ≠ [] := fun e => by have := congrArg List.length e; simp at this; omega
  rw [hM]
  unfold lnS
  rw [lnsF_step hne, List.map_cons, List.drop_drop, List.append_assoc]
  rfl
theorem lnsF_len : ∀ xs : List Int, (lnsF xs).length ≤ xs.length
  | [] => Nat.le_refl _
  | x :: r => by
    have ih := lnsF_len r
    rw [lnsF]
    split
    · simp; omega
    · cases h : lnsF r with
      | nil => simp
      | cons l ls => rw [h] at ih; simp at ih ⊢; omega
theorem lnS_len (xs : List Int) : (lnS xs).length ≤ xs.length := by unfold lnS; rw [List.length_map]; exact lnsF_len xs
end Go.Proofs.Ytjhcpmhjdhmjpaa
