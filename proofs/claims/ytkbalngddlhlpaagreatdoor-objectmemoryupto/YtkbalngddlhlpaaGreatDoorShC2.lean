/-
  The plain mathematics of chains of blocks.
-/
import Derived.Test.YtkbalngddlhlpaaGreatDoorShA
namespace Go.Proofs.YtkbalngddlhlpaaGreatDoor.Sh






theorem St.add_comm (r s : St) : r.add s = s.add r := by
  simp only [St.add, addW, Int.add_comm]

end Go.Proofs.YtkbalngddlhlpaaGreatDoor.Sh
