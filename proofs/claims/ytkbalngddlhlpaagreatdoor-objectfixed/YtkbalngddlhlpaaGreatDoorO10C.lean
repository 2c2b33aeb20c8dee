/-
  Idents held against themselves.
-/
import Derived.Test.YtkbalngddlhlpaaGreatDoorL9
import Derived.Test.YtkbalngddlhlpaaGreatDoorO10B
namespace Go.Proofs.YtkbalngddlhlpaaGreatDoor
open Go.RowKit

end Go.Proofs.YtkbalngddlhlpaaGreatDoor
