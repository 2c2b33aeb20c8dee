/-
  The document's tag. (By tools/gen_l12.py.)
-/
import Derived.Test.YtkbalngddlhlpaaGreatDoorL9
import Derived.Test.YtkbalngddlhlpaaGreatDoorO10B
import Derived.Test.YtkbalngddlhlpaaGreatDoorN21
import Derived.Test.YtkbalngddlhlpaaGreatDoorShH2
namespace Go.Proofs.YtkbalngddlhlpaaGreatDoor
open Go.RowKit



end Go.Proofs.YtkbalngddlhlpaaGreatDoor
