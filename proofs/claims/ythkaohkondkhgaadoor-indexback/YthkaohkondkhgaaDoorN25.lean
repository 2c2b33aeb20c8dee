/-
  Walks: the document's lower; Mode, the program's and the document's.
-/
import Derived.Test.YthkaohkondkhgaaDoorN9
namespace Go.Proofs.YthkaohkondkhgaaDoor
open Go.RowKit

set_option maxHeartbeats 400000 in
set_option maxRecDepth 100000 in
theorem rlower_any (n : Nat) (w : World) (hn : n < 256) : Calls Tryd.prog 105 #[.int .u8 n] w fun e w' => e = .returned (.int .u8 (lowN n)) ∧ w' = w := by
  unfold lowN
  by_cases h1 : 65 ≤ n
  · have h1i : (65 : Int) ≤ (n : Int) := by omega
    by_cases h2 : n ≤ 90
    · have h2i : (n : Int) ≤ 90 := by omega
      go_enter Tryd.func105, Tryd.ntmps105
      go_wp2
      go_ret
      have e : (n : Int) - 65 + 97 = (n : Int) + 32 := by omega
      rw [← e]
      exact ⟨rfl, rfl⟩
    · have h2i : ¬ (n : Int) ≤ 90 := by omega
      go_enter Tryd.func105, Tryd.ntmps105
      go_wp2
      go_ret
      exact ⟨rfl, rfl⟩
  · have h1i : ¬ (65 : Int) ≤ (n : Int) := by omega
    go_enter Tryd.func105, Tryd.ntmps105
    go_wp2
    go_ret
    exact ⟨rfl, rfl⟩

/-- Is it .git, in whatever letters? -/

def modF (m : Int) : Bool := decide (m = 16384) || decide (m = 33188) || decide (m = 33261) || decide (m = 40960)
set_option maxHeartbeats 1000000 in
set_option maxRecDepth 100000 in
theorem rmode_any (m : Int) (w : World) : Calls Tryd.prog 48 #[.int .i64 m] w fun e w' => e = .returned (.bool (modF m)) ∧ Below w.heap.size w w' := by
  by_cases h1 : m = 16384
  · subst h1
    go_enter Tryd.func48, Tryd.ntmps48
    go_wp2
    go_ret
    exact ⟨rfl, Below.refl _ _⟩
  · have b1 : (m == 16384) = false := by simpa using h1
    by_cases h2 : m = 33188
    · subst h2
      go_enter Tryd.func48, Tryd.ntmps48
      go_wp2
      go_ret
      exact ⟨rfl, Below.refl _ _⟩
    · have b2 : (m == 33188) = false := by simpa using h2
      by_cases h3 : m = 33261
      · subst h3
        go_enter Tryd.func48, Tryd.ntmps48
        go_wp2
        go_ret
        exact ⟨rfl, Below.refl _ _⟩
      · have b3 : (m == 33261) = false := by simpa using h3
        by_cases h4 : m = 40960
        · subst h4
          go_enter Tryd.func48, Tryd.ntmps48
          go_wp2
          go_ret
          exact ⟨rfl, Below.refl _ _⟩
        · have b4 : (m == 40960) = false := by simpa using h4
          have KE : Kept (modF m = false) := ⟨by unfold modF; rw [decide_eq_false h1, decide_eq_false h2, decide_eq_false h3, decide_eq_false h4]; rfl⟩
          go_enter Tryd.func48, Tryd.ntmps48
          go_wp2
          go_ret
          exact ⟨by rw [KE.out]; rfl, Below.refl _ _⟩
set_option maxHeartbeats 1000000 in
set_option maxRecDepth 100000 in
theorem mode_any (m : Int) (w : World) : Calls Tryd.prog 54 #[.int .i64 m] w fun e w' => e = .returned (.bool (modF m)) ∧ Below w.heap.size w w' := by
  by_cases h1 : m = 16384
  · subst h1
    go_enter Tryd.func54, Tryd.ntmps54
    go_wp2
    go_ret
    exact ⟨rfl, Below.refl _ _⟩
  · have b1 : (m == 16384) = false := by simpa using h1
    by_cases h2 : m = 33188
    · subst h2
      go_enter Tryd.func54, Tryd.ntmps54
      go_wp2
      go_ret
      exact ⟨rfl, Below.refl _ _⟩
    · have b2 : (m == 33188) = false := by simpa using h2
      by_cases h3 : m = 33261
      · subst h3
        go_enter Tryd.func54, Tryd.ntmps54
        go_wp2
        go_ret
        exact ⟨rfl, Below.refl _ _⟩
      · have b3 : (m == 33261) = false := by simpa using h3
        by_cases h4 : m = 40960
        · subst h4
          go_enter Tryd.func54, Tryd.ntmps54
          go_wp2
          go_ret
          exact ⟨rfl, Below.refl _ _⟩
        · have b4 : (m == 40960) = false := by simpa using h4
          have KE : Kept (modF m = false) := ⟨by unfold modF; rw [decide_eq_false h1, decide_eq_false h2, decide_eq_false h3, decide_eq_false h4]; rfl⟩
          go_enter Tryd.func54, Tryd.ntmps54
          go_wp2
          go_ret
          exact ⟨by rw [KE.out]; rfl, Below.refl _ _⟩
end Go.Proofs.YthkaohkondkhgaaDoor
