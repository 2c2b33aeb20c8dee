/-
  Walks: the document's git, Name.
-/
import Derived.Test.YtkbalngddlhlpaaGreatDoorN25
import Derived.Test.YtkbalngddlhlpaaGreatDoorN21
namespace Go.Proofs.YtkbalngddlhlpaaGreatDoor
open Go.RowKit



end Go.Proofs.YtkbalngddlhlpaaGreatDoor
