/-
  Walks: the law DiffWays.
-/
import Derived.Test.YtjhcpmhjdhmjpaaDH6
import Derived.Test.YtjhcpmhjdhmjpaaVE
namespace Go.Proofs.Ytjhcpmhjdhmjpaa
open Go.RowKit Go.Shelf

theorem tl_len (sg : UInt8) (s : ByteArray) : (tl sg s).length ≤ s.size + 4 := by
  unfold tl
  rw [List.length_cons, List.length_append, ← Lib.size_eq]
  split <;> simp
theorem getD_size {a : List ByteArray} {n : Nat} (h : ∀ s ∈ a, s.size ≤ n) (i : Nat) : (a[i]?.getD ⟨#[]⟩).size ≤ n := by
  cases hi : a[i]? with
  | none => exact Nat.zero_le _
  | some s => exact h s (List.mem_of_getElem? hi)
theorem txP_len (a b : List ByteArray) (n : Nat) (ha : ∀ s ∈ a, s.size ≤ n) (hb : ∀ s ∈ b, s.size ≤ n) : ∀ (r : List Pt) (p : Pt), (txP a b (p :: r)).length ≤ r.length * (n + 4)
  | [], p => by
    rw [txP_flat, tlW_one]
    simp
  | q :: r, p => by
    have ih := txP_len a b n ha hb r q
    rw [txP, List.length_append, List.length_cons, Nat.add_mul, Nat.one_mul]
    have h1 : (tlS a b p q).length ≤ n + 4 := by
      unfold tlS
      split
      · have := tl_len 32 (a[p.1]?.getD ⟨#[]⟩); have := getD_size ha p.1; omega
      · split
        · have := tl_len 45 (a[p.1]?.getD ⟨#[]⟩); have := getD_size ha p.1; omega
        · have := tl_len 43 (b[p.2]?.getD ⟨#[]⟩); have := getD_size hb p.2; omega
    omega
set_option maxHeartbeats 400000 in
set_option maxRecDepth 100000 in
theorem small_any (a b : Option Addr) (n m c d : Nat) (w : World) :
    Calls Try.prog 9 #[.slice a n c, .slice b m d] w fun e w' => e = .returned (.bool (decide (n ≤ 60 ∧ m ≤ 60) || longB n m)) ∧ w' = w := by
  by_cases h1 : n ≤ 60
  · have g1 : (n : Int) ≤ 60 := by omega
    have g2 : ¬ (1000 : Int) < (n : Int) := by omega
    by_cases h2 : m ≤ 60
    · have g3 : (m : Int) ≤ 60 := by omega
      have K1 : Kept ((decide (n ≤ 60 ∧ m ≤ 60) || longB n m) = true) := ⟨by rw [decide_eq_true ⟨h1, h2⟩]; rfl⟩
      rw [K1.out]
      clear h1 h2 K1
      go_enter Try.func9, Try.ntmps9
      go_wp2
      go_ret
      exact ⟨rfl, rfl⟩
    · have g3 : ¬ (m : Int) ≤ 60 := by omega
      have K1 : Kept ((decide (n ≤ 60 ∧ m ≤ 60) || longB n m) = decide ((1000 : Int) < (m : Int))) := ⟨by
        rw [decide_eq_false (fun h => h2 h.2)]
        unfold longB
        rw [decide_eq_false (by omega : ¬ 1000 < n)]
        simp only [Bool.false_or, decide_eq_decide]
        omega⟩
      rw [K1.out]
      clear h1 h2 K1
      go_enter Try.func9, Try.ntmps9
      go_wp2
      go_ret
      exact ⟨rfl, rfl⟩
  · have g1 : ¬ (n : Int) ≤ 60 := by omega
    by_cases h2 : 1000 < n
    · have g3 : (1000 : Int) < (n : Int) := by omega
      have K1 : Kept ((decide (n ≤ 60 ∧ m ≤ 60) || longB n m) = true) := ⟨by unfold longB; rw [decide_eq_true h2]; simp⟩
      rw [K1.out]
      clear h1 h2 K1
      go_enter Try.func9, Try.ntmps9
      go_wp2
      go_ret
      exact ⟨rfl, rfl⟩
    · have g3 : ¬ (1000 : Int) < (n : Int) := by omega
      have K1 : Kept ((decide (n ≤ 60 ∧ m ≤ 60) || longB n m) = decide ((1000 : Int) < (m : Int))) := ⟨by
        rw [decide_eq_false (fun h => h1 h.1)]
        unfold longB
        rw [decide_eq_false h2]
        simp only [Bool.false_or, decide_eq_decide]
        omega⟩
      rw [K1.out]
      clear h1 h2 K1
      go_enter Try.func9, Try.ntmps9
      go_wp2
      go_ret
      exact ⟨rfl, rfl⟩
end Go.Proofs.Ytjhcpmhjdhmjpaa
