/-
  The document's commit. (By tools/gen_c7.py.)
-/
import Derived.Test.YtkbalngddlhlpaaGreatDoorC2
import Derived.Test.YtkbalngddlhlpaaGreatDoorL8
import Derived.Test.YtkbalngddlhlpaaGreatDoorC4
import Derived.Test.YtkbalngddlhlpaaGreatDoorN21
import Derived.Test.YtkbalngddlhlpaaGreatDoorShH2
namespace Go.Proofs.YtkbalngddlhlpaaGreatDoor
open Go.RowKit



end Go.Proofs.YtkbalngddlhlpaaGreatDoor
