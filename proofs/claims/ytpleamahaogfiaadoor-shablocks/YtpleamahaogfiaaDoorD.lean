/-
  Walks: digit, Parse.
-/
import Derived.Test.YtpleamahaogfiaaDoorH
namespace Go.Proofs.YtpleamahaogfiaaDoor
open Go.RowKit

/-- Is a letter a digit? What does it count? -/
def isD (c : Int) : Bool := decide ((48 ≤ c ∧ c ≤ 57) ∨ (97 ≤ c ∧ c ≤ 102))
def valD (c : Int) : Int := if c ≤ 57 then c - 48 else c - 97 + 10

set_option maxHeartbeats 400000 in
theorem digit_any (c : Int) (w : World) (h0 : 0 ≤ c) (h1 : c < 256) :
    Calls Tryd.prog 31 #[.int .u8 c] w fun e w' => e = .returned (.tuple #[.int .u8 (if isD c then valD c else 0), .bool (isD c)]) ∧ w' = w := by
  by_cases a1 : 48 ≤ c
  · by_cases a2 : c ≤ 57
    · have e1 : isD c = true := by simp [isD, a1, a2]
      have e2 : valD c = c - 48 := by simp [valD, a2]
      rw [e1, e2]
      clear e1 e2
      go_enter Tryd.func31, Tryd.ntmps31
      go_wp2
      go_ret2
      exact ⟨rfl, rfl⟩
    · by_cases a3 : 97 ≤ c
      · by_cases a4 : c ≤ 102
        · have e1 : isD c = true := by simp [isD, a3, a4]
          have e2 : valD c = c - 97 + 10 := by simp [valD, a2]
          rw [e1, e2]
          clear e1 e2
          go_enter Tryd.func31, Tryd.ntmps31
          go_wp2
          go_ret2

          exact ⟨rfl, rfl⟩
        · have e1 : isD c = false := by simp [isD]; omega
          rw [e1]
          clear e1
          go_enter Tryd.func31, Tryd.ntmps31
          go_wp2
          go_ret2
          exact ⟨rfl, rfl⟩
      · have e1 : isD c = false := by simp [isD]; omega
        rw [e1]
        clear e1
        go_enter Tryd.func31, Tryd.ntmps31
        go_wp2
        go_ret2
        exact ⟨rfl, rfl⟩
  · have e1 : isD c = false := by simp [isD]; omega
    rw [e1]
    clear e1
    have a3 : ¬ 97 ≤ c := by omega
    go_enter Tryd.func31, Tryd.ntmps31
    go_wp2
    go_ret2
    exact ⟨rfl, rfl⟩
set_option maxHeartbeats 400000 in
theorem rdigit_any (c : Int) (w : World) (h0 : 0 ≤ c) (h1 : c < 256) :
    Calls Tryd.prog 32 #[.int .u8 c] w fun e w' => e = .returned (.int .i64 (if isD c then valD c else 16)) ∧ w' = w := by
  by_cases a1 : 48 ≤ c
  · by_cases a2 : c ≤ 57
    · have e1 : isD c = true := by simp [isD, a1, a2]
      have e2 : valD c = c - 48 := by simp [valD, a2]
      rw [e1, e2]
      clear e1 e2
      go_enter Tryd.func32, Tryd.ntmps32
      go_wp2
      go_ret
      exact ⟨rfl, rfl⟩
    · by_cases a3 : 97 ≤ c
      · by_cases a4 : c ≤ 102
        · have e1 : isD c = true := by simp [isD, a3, a4]
          have e2 : valD c = c - 97 + 10 := by simp [valD, a2]
          rw [e1, e2]
          clear e1 e2
          go_enter Tryd.func32, Tryd.ntmps32
          go_wp2
          go_ret

          exact ⟨rfl, rfl⟩
        · have e1 : isD c = false := by simp [isD]; omega
          rw [e1]
          clear e1
          go_enter Tryd.func32, Tryd.ntmps32
          go_wp2
          go_ret
          exact ⟨rfl, rfl⟩
      · have e1 : isD c = false := by simp [isD]; omega
        rw [e1]
        clear e1
        go_enter Tryd.func32, Tryd.ntmps32
        go_wp2
        go_ret
        exact ⟨rfl, rfl⟩
  · have e1 : isD c = false := by simp [isD]; omega
    rw [e1]
    clear e1
    have a3 : ¬ 97 ≤ c := by omega
    go_enter Tryd.func32, Tryd.ntmps32
    go_wp2
    go_ret
    exact ⟨rfl, rfl⟩
end Go.Proofs.YtpleamahaogfiaaDoor
