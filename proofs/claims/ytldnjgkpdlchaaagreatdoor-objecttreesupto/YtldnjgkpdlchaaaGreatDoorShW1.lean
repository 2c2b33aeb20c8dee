/-
  Walks: turnRight, and the document's right.
-/
import Derived.Test.YtldnjgkpdlchaaaGreatDoorRows
import Derived.Test.YtldnjgkpdlchaaaGreatDoorShM
import Derived.WalkKit
import Derived.WalkSpells
import Derived.WalkLawsBesides
import Derived.Deep.QuietTactic
import Derived.BigQuiet
namespace Go.Proofs.YtldnjgkpdlchaaaGreatDoor.Sh
open Go.RowKit

set_option maxHeartbeats 400000 in
set_option maxRecDepth 100000 in
theorem turn_any (x s : Int) (w : World) (hx0 : 0 ≤ x) (hx1 : x < 4294967296) (hs0 : 1 ≤ s) (hs1 : s ≤ 31) :
    Calls Tryz.prog 74 #[.int .u32 x, .int .i64 s] w fun e w' => e = .returned (.int .u32 (rotr x s)) ∧ w' = w := by
  obtain ⟨n, rfl⟩ := Int.eq_ofNat_of_zero_le (show 0 ≤ s by omega)
  have ha := and31 (n : Int) hs0 hs1
  have hcast : (32 : Int) - (n : Int) = ((32 - n : Nat) : Int) := by omega
  rw [hcast] at ha
  have ho := rot_or x n hx0 hx1 (by omega) (by omega)
  have hc2 : (32 : Int) - ((32 - n : Nat) : Int) = (n : Int) := by omega
  clear hcast
  go_enter Tryz.func74, Tryz.ntmps74
  go_wp2
  go_ret
  exact ⟨rfl, rfl⟩

end Go.Proofs.YtldnjgkpdlchaaaGreatDoor.Sh
