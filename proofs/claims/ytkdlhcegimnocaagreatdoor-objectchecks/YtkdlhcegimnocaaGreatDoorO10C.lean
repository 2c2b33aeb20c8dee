/-
  Idents held against themselves.
-/
import Derived.Test.YtkdlhcegimnocaaGreatDoorL9
import Derived.Test.YtkdlhcegimnocaaGreatDoorO10B
namespace Go.Proofs.YtkdlhcegimnocaaGreatDoor
open Go.RowKit

end Go.Proofs.YtkdlhcegimnocaaGreatDoor
