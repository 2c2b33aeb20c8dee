/-
  Walks: the document's lower; Mode, the program's and the document's.
-/
import Derived.Test.YtmnadnhabfflkaaDoorN9
namespace Go.Proofs.YtmnadnhabfflkaaDoor
open Go.RowKit

/-- Is it .git, in whatever letters? -/

def modF (m : Int) : Bool := decide (m = 16384) || decide (m = 33188) || decide (m = 33261) || decide (m = 40960)
set_option maxHeartbeats 1000000 in
set_option maxRecDepth 100000 in
theorem mode_any (m : Int) (w : World) : Calls Tryd.prog 33 #[.int .i64 m] w fun e w' => e = .returned (.bool (modF m)) ∧ Below w.heap.size w w' := by
  by_cases h1 : m = 16384
  · subst h1
    go_enter Tryd.func33, Tryd.ntmps33
    go_wp2
    go_ret
    exact ⟨rfl, Below.refl _ _⟩
  · have b1 : (m == 16384) = false := by simpa using h1
    by_cases h2 : m = 33188
    · subst h2
      go_enter Tryd.func33, Tryd.ntmps33
      go_wp2
      go_ret
      exact ⟨rfl, Below.refl _ _⟩
    · have b2 : (m == 33188) = false := by simpa using h2
      by_cases h3 : m = 33261
      · subst h3
        go_enter Tryd.func33, Tryd.ntmps33
        go_wp2
        go_ret
        exact ⟨rfl, Below.refl _ _⟩
      · have b3 : (m == 33261) = false := by simpa using h3
        by_cases h4 : m = 40960
        · subst h4
          go_enter Tryd.func33, Tryd.ntmps33
          go_wp2
          go_ret
          exact ⟨rfl, Below.refl _ _⟩
        · have b4 : (m == 40960) = false := by simpa using h4
          have KE : Kept (modF m = false) := ⟨by unfold modF; rw [decide_eq_false h1, decide_eq_false h2, decide_eq_false h3, decide_eq_false h4]; rfl⟩
          go_enter Tryd.func33, Tryd.ntmps33
          go_wp2
          go_ret
          exact ⟨by rw [KE.out]; rfl, Below.refl _ _⟩
end Go.Proofs.YtmnadnhabfflkaaDoor
